/- Merged: GhaC GhaD GhaE -/
import Derived.Laws.MakeOwn
import Derived.Test.YtlnhkiamhmjckaaU1
import Derived.Test.YtlnhkiamhmjckaaU3
set_option linter.unusedVariables false
section
namespace Go.Proofs.Ytlnhkiamhmjckaa
open Go.RowKit Go.Own Go.Maps
namespace Gha
open Go.GhoM Byt Gho
section
variable {B : Nat} {w0 w : World} {Ps : List Asn} {p m room a b : Nat} {s t : List KV} {es : List Nd}
theorem aof_perm (H : Own.St B w0 w (AOf b s :: Ps)) (e : s.Perm t) : Own.St B w0 w (AOf b t :: Ps) := by
  obtain ⟨S, hS, _, put⟩ := H.at 0 rfl
  exact put S w _ (aof_permH hS e) (Step.refl S w)
theorem aof_perm1 {P : Asn} (H : Own.St B w0 w (P :: AOf b s :: Ps)) (e : s.Perm t) : Own.St B w0 w (P :: AOf b t :: Ps) :=
  (aof_perm (H.perm (List.Perm.swap _ _ _)) e).perm (List.Perm.swap _ _ _)
theorem kv_ne {pre post : List Nd} (hn : ((pre ++ (a, b) :: post).map (·.1)).Nodup) : ∀ e ∈ (pre ++ post).map kv, e.1 ≠ a := by
  intro e he
  obtain ⟨x, hx, rfl⟩ := List.mem_map.1 he
  rw [List.map_append, List.map_cons] at hn
  have h1 := (List.perm_middle (l₁ := pre.map (·.1)) (l₂ := post.map (·.1)) (a := a)).nodup_iff.1 hn
  have h2 := (List.nodup_cons.1 h1).1
  rw [← List.map_append] at h2
  exact fun e => h2 (List.mem_map.2 ⟨x, hx, e⟩)
theorem kv_not (hn : a ∉ es.map (·.1)) : ∀ e ∈ es.map kv, e.1 ≠ a := by
  intro e he
  obtain ⟨x, hx, rfl⟩ := List.mem_map.1 he
  exact fun e => hn (List.mem_map.2 ⟨x, hx, e⟩)
theorem kv_perm (pre post : List Nd) : ((pre ++ (a, b) :: post).map kv).Perm ((a, ptr b) :: (pre ++ post).map kv) := by
  rw [List.map_append, List.map_cons, List.map_append]
  exact List.perm_middle
/-- a node is taken out -/
theorem remove_any {pre post : List Nd} (H : Own.St B w0 w (AEs p m room (pre ++ (a, b) :: post) :: Ps)) (hn : ((pre ++ (a, b) :: post).map (·.1)).Nodup) (ha : a < 4294967296) :
    Calls Try.prog 17 #[ptr p, ptr b] w fun e w' => e = .returned (.tuple #[]) ∧ Own.St B w0 w' (AEs p m room (pre ++ post) :: Ps) := by
  have hs := kv_ne hn
  have h0 := aof_perm1 (es_open H) (kv_perm pre post)
  rcases List.eq_nil_or_concat pre with rfl | ⟨pr, d, rfl⟩
  · cases post with
    | nil =>
      refine (rem_one (Ps := Ps) (s := []) ha hs h0).mono ?_
      rintro e w' ⟨rfl, h⟩
      exact ⟨rfl, es_close (es := []) h⟩
    | cons f po =>
      refine (rem_first (Ps := seg (ptr f.2) po nilP ++ Ps) (s := (f :: po).map kv) (laV (ptr f.2) po) f.2 (aV f.1) (hdV po nilP) ha hs h0).mono ?_
      rintro e w' ⟨rfl, h⟩
      exact ⟨rfl, es_close (es := f :: po) h⟩
  · rw [List.concat_eq_append] at *
    have e1 : hdV (pr ++ [d] ++ (a, b) :: post) nilP = hdV pr (ptr d.2) := by rw [List.append_assoc, hd_app]; rfl
    have e2 : laV nilP (pr ++ [d] ++ (a, b) :: post) = laV (ptr b) post := by rw [la_app]; rfl
    have e3 : seg nilP (pr ++ [d] ++ (a, b) :: post) nilP = seg nilP pr (ptr d.2) ++ (nodeA d (ptr b) (laV nilP pr) :: nodeA (a, b) (hdV post nilP) (ptr d.2) :: seg (ptr b) post nilP) := by
      rw [List.append_assoc, seg_app]
      rfl
    rw [e1, e2, e3] at h0
    cases post with
    | nil =>
      have hp : Own.St B w0 w (AVals p 47 (lC room (hdV pr (ptr d.2)) (ptr b) m) :: AOf m ((a, ptr b) :: (pr ++ [d] ++ []).map kv) :: AVals b 51 [aV a, nilP, ptr d.2] :: AVals d.2 51 [aV d.1, ptr b, laV nilP pr] :: (seg nilP pr (ptr d.2) ++ Ps)) := by
        refine h0.perm ((List.Perm.cons _ (List.Perm.cons _ ?_)))
        rw [List.append_assoc]
        refine List.perm_middle.trans (((List.perm_middle (a := nodeA (a, b) nilP (ptr d.2))).cons _).trans ?_)
        exact List.Perm.swap _ _ _
      refine (rem_last (s := (pr ++ [d] ++ []).map kv) _ d.2 (aV d.1) (laV nilP pr) ha hs hp).mono ?_
      rintro e w' ⟨rfl, h⟩
      refine ⟨rfl, es_close (es := pr ++ [d] ++ []) ?_⟩
      have e4 : hdV (pr ++ [d] ++ []) nilP = hdV pr (ptr d.2) := by rw [List.append_nil, hd_app]; rfl
      have e5 : laV nilP (pr ++ [d] ++ []) = ptr d.2 := by rw [List.append_nil, la_snoc]
      have e6 : seg nilP (pr ++ [d] ++ []) nilP = seg nilP pr (ptr d.2) ++ [nodeA d nilP (laV nilP pr)] := by rw [List.append_nil, seg_snoc]
      rw [e4, e5, e6]
      refine h.perm (List.Perm.cons _ (List.Perm.cons _ ?_))
      rw [List.append_assoc]
      exact List.perm_middle.symm
    | cons f po =>
      have hp : Own.St B w0 w (AVals p 47 (lC room (hdV pr (ptr d.2)) (laV (ptr b) (f :: po)) m) :: AOf m ((a, ptr b) :: (pr ++ [d] ++ f :: po).map kv) :: AVals b 51 [aV a, ptr f.2, ptr d.2] :: AVals d.2 51 [aV d.1, ptr b, laV nilP pr] :: AVals f.2 51 [aV f.1, hdV po nilP, ptr b] :: (seg nilP pr (ptr d.2) ++ (seg (ptr f.2) po nilP ++ Ps))) := by
        refine h0.perm ((List.Perm.cons _ (List.Perm.cons _ ?_)))
        rw [List.append_assoc]
        refine List.perm_middle.trans (((List.perm_middle (a := nodeA (a, b) (ptr f.2) (ptr d.2))).cons _).trans ?_)
        refine (((List.perm_middle (a := nodeA f (hdV po nilP) (ptr b))).cons _).cons _).trans ?_
        exact List.Perm.swap _ _ _
      refine (rem_mid (s := (pr ++ [d] ++ f :: po).map kv) _ _ d.2 (aV d.1) (laV nilP pr) f.2 (aV f.1) (hdV po nilP) ha hs hp).mono ?_
      rintro e w' ⟨rfl, h⟩
      refine ⟨rfl, es_close (es := pr ++ [d] ++ f :: po) ?_⟩
      have e4 : hdV (pr ++ [d] ++ f :: po) nilP = hdV pr (ptr d.2) := by rw [List.append_assoc, hd_app]; rfl
      have e5 : laV nilP (pr ++ [d] ++ f :: po) = laV (ptr b) (f :: po) := by rw [la_app]; rfl
      have e6 : seg nilP (pr ++ [d] ++ f :: po) nilP = seg nilP pr (ptr d.2) ++ (nodeA d (ptr f.2) (laV nilP pr) :: nodeA f (hdV po nilP) (ptr d.2) :: seg (ptr f.2) po nilP) := by
        rw [List.append_assoc, seg_app]
        rfl
      rw [e4, e5, e6]
      refine h.perm (List.Perm.cons _ (List.Perm.cons _ ?_))
      rw [List.append_assoc]
      refine List.Perm.symm (List.perm_middle.trans ((List.perm_middle (a := nodeA f (hdV po nilP) (ptr d.2))).cons _))
set_option maxHeartbeats 3200000 in
theorem add_one (ha : a < 4294967296) (hl : s.length ≤ 100000) (hs : ∀ e ∈ s, e.1 ≠ a) (H : Own.St B w0 w (AVals p 47 (lC room nilP nilP m) :: AOf m s :: Ps)) :
    Calls Try.prog 18 #[ptr p, aV a] w fun e w' => e = .returned (.tuple #[]) ∧ ∃ b, Own.St B w0 w' (AVals p 47 (lC room (ptr b) (ptr b) m) :: AOf m ((a, ptr b) :: s) :: AVals b 51 [aV a, nilP, nilP] :: Ps) := by
  have c0 := (H.cellV 0 rfl 1 rfl).1
  have h1 := H.boxV 51 [aV a, nilP, nilP]
  obtain ⟨b, hb⟩ : ∃ b, b = w.heap.size := ⟨_, rfl⟩
  obtain ⟨W1, hW1⟩ : ∃ W, W = w.alloc (.cells [aV a, nilP, nilP].toArray 51) := ⟨_, rfl⟩
  rw [← hW1, ← hb] at h1
  have E1 : w.alloc (.cells #[aV a, nilP, nilP] 51) = W1 := hW1.symm
  have EB := hb.symm
  have c1 := (h1.cellV 0 rfl 1 rfl).1
  obtain ⟨c2, c2z⟩ := h1.cellV 1 rfl 2 rfl
  have h2 := h1.storeV 1 rfl 2 (ptr b)
  simp only [List.set_cons_zero, List.set_cons_succ] at h2
  obtain ⟨W2, hW2⟩ : ∃ W, W = W1.setCell ⟨p, 2, none⟩ (ptr b) := ⟨_, rfl⟩
  rw [← hW2] at h2
  have E2 := hW2.symm
  obtain ⟨c3, c3z⟩ := h2.cellV 1 rfl 1 rfl
  have h3 := h2.storeV 1 rfl 1 (ptr b)
  simp only [List.set_cons_zero, List.set_cons_succ] at h3
  obtain ⟨W3, hW3⟩ : ∃ W, W = W2.setCell ⟨p, 1, none⟩ (ptr b) := ⟨_, rfl⟩
  rw [← hW3] at h3
  have E3 := hW3.symm
  have c4 := (h3.cellV 1 rfl 3 rfl).1
  obtain ⟨wz, ez, kz⟩ := mapPutN h3 2 (a := a) (v := nilP) (pres := false) (s := s) rfl ha hs (by omega) (ptr b)
  simp only [List.set_cons_zero, List.set_cons_succ] at kz
  have KZ := Lib.hid kz
  clear H h1 h2 h3 hb hW1 hW2 hW3 kz hs hl
  go_enter Try.func18, Try.ntmps18
  go_wp2
  go_end0
  refine ⟨rfl, b, ?_⟩
  exact KZ.out.perm (List.perm_middle (l₁ := [_, _])).symm
set_option maxHeartbeats 3200000 in
theorem add_first (v2 : Value) (f : Nat) (x y : Value) (ha : a < 4294967296) (hl : s.length ≤ 100000) (hs : ∀ e ∈ s, e.1 ≠ a) (H : Own.St B w0 w (AVals p 47 (lC room (ptr f) v2 m) :: AOf m s :: AVals f 51 [x, y, nilP] :: Ps)) :
    Calls Try.prog 18 #[ptr p, aV a] w fun e w' => e = .returned (.tuple #[]) ∧ ∃ b, Own.St B w0 w' (AVals p 47 (lC room (ptr b) v2 m) :: AOf m ((a, ptr b) :: s) :: AVals b 51 [aV a, ptr f, nilP] :: AVals f 51 [x, y, ptr b] :: Ps) := by
  have c0 := (H.cellV 0 rfl 1 rfl).1
  have h1 := H.boxV 51 [aV a, ptr f, nilP]
  obtain ⟨b, hb⟩ : ∃ b, b = w.heap.size := ⟨_, rfl⟩
  obtain ⟨W1, hW1⟩ : ∃ W, W = w.alloc (.cells [aV a, ptr f, nilP].toArray 51) := ⟨_, rfl⟩
  rw [← hW1, ← hb] at h1
  have E1 : w.alloc (.cells #[aV a, ptr f, nilP] 51) = W1 := hW1.symm
  have EB := hb.symm
  have c1 := (h1.cellV 0 rfl 1 rfl).1
  obtain ⟨c2, c2z⟩ := h1.cellV 3 rfl 2 rfl
  have h2 := h1.storeV 3 rfl 2 (ptr b)
  simp only [List.set_cons_zero, List.set_cons_succ] at h2
  obtain ⟨W2, hW2⟩ : ∃ W, W = W1.setCell ⟨f, 2, none⟩ (ptr b) := ⟨_, rfl⟩
  rw [← hW2] at h2
  have E2 := hW2.symm
  obtain ⟨c3, c3z⟩ := h2.cellV 1 rfl 1 rfl
  have h3 := h2.storeV 1 rfl 1 (ptr b)
  simp only [List.set_cons_zero, List.set_cons_succ] at h3
  obtain ⟨W3, hW3⟩ : ∃ W, W = W2.setCell ⟨p, 1, none⟩ (ptr b) := ⟨_, rfl⟩
  rw [← hW3] at h3
  have E3 := hW3.symm
  have c4 := (h3.cellV 1 rfl 3 rfl).1
  obtain ⟨wz, ez, kz⟩ := mapPutN h3 2 (a := a) (v := nilP) (pres := false) (s := s) rfl ha hs (by omega) (ptr b)
  simp only [List.set_cons_zero, List.set_cons_succ] at kz
  have KZ := Lib.hid kz
  clear H h1 h2 h3 hb hW1 hW2 hW3 kz hs hl
  go_enter Try.func18, Try.ntmps18
  go_wp2
  go_end0
  refine ⟨rfl, b, ?_⟩
  exact KZ.out.perm (List.perm_middle (l₁ := [_, _])).symm
theorem add_any (H : Own.St B w0 w (AEs p m room es :: Ps)) (hn : a ∉ es.map (·.1)) (ha : a < 4294967296) (hl : es.length ≤ 100000) :
    Calls Try.prog 18 #[ptr p, aV a] w fun e w' => e = .returned (.tuple #[]) ∧ ∃ b, Own.St B w0 w' (AEs p m room ((a, b) :: es) :: Ps) := by
  have hs := kv_not hn
  have h0 := es_open H
  have hl2 : (es.map kv).length ≤ 100000 := by rw [List.length_map]; exact hl
  cases es with
  | nil =>
    refine (add_one (Ps := Ps) (s := []) ha hl2 hs h0).mono ?_
    rintro e w' ⟨rfl, b, h⟩
    exact ⟨rfl, b, es_close (es := [(a, b)]) h⟩
  | cons f es =>
    refine (add_first (Ps := seg (ptr f.2) es nilP ++ Ps) (s := (f :: es).map kv) (laV (ptr f.2) es) f.2 (aV f.1) (hdV es nilP) ha hl2 hs h0).mono ?_
    rintro e w' ⟨rfl, b, h⟩
    exact ⟨rfl, b, es_close (es := (a, b) :: f :: es) h⟩
end
end Gha
end Go.Proofs.Ytlnhkiamhmjckaa

end
section
namespace Go.Proofs.Ytlnhkiamhmjckaa
open Go.RowKit Go.Own Go.Maps
namespace Gha
open Go.GhoM Byt Gho
section
variable {B : Nat} {w0 w : World} {Ps : List Asn} {p m room a b : Nat} {s t : List KV} {es : List Nd} {g : G}
set_option maxHeartbeats 1600000 in
theorem new_any (num : Int) (H : Own.St B w0 w Ps) (hr : -9223372036854775808 ≤ num ∧ num ≤ 9223372036854775807) :
    Calls Try.prog 9 #[.int .i64 num] w fun e w' => if mayBe num = true then ∃ p, e = .returned (.tuple #[ptr p, errG 0]) ∧ Own.St B w0 w' (A p (newG num.toNat) :: Ps) else e = .returned (.tuple #[.pointer none, errG 1]) ∧ Own.St B w0 w' Ps := by
  by_cases h1 : num < 0
  · have hm : mayBe num = false := by unfold mayBe; simp; omega
    have HH := Lib.hid H
    rw [hm]
    clear H hm
    go_enter Try.func9, Try.ntmps9
    go_wp2
    go_ret2
    exact ⟨rfl, HH.out⟩
  · by_cases h2 : 4096 < num
    · have hm : mayBe num = false := by unfold mayBe; simp; omega
      have HH := Lib.hid H
      rw [hm]
      clear H hm
      go_enter Try.func9, Try.ntmps9
      go_wp2
      go_ret2
      exact ⟨rfl, HH.out⟩
    · have hm : mayBe num = true := by unfold mayBe; simp; omega
      obtain ⟨wm, b, em, hM⟩ := mapMakeN H
      have h3 := hM.boxV 47 [.int .i64 num, nilP, nilP, .map (some b)]
      have e1 : num = ((num.toNat : Nat) : Int) := by omega
      have H3 : Hid (Own.St B w0 (wm.alloc (.cells #[.int .i64 num, nilP, nilP, .map (some b)] 47)) (A wm.heap.size (newG num.toNat) :: Ps)) := by
        refine A_close (m := b) (room := num.toNat) (es := []) (g := newG num.toNat) rfl rfl (es_close (es := []) ?_)
        show Own.St B w0 _ (AVals _ _ [.int .i64 ((num.toNat : Nat) : Int), nilP, nilP, .map (some b)] :: _)
        rw [← e1]
        exact h3
      rw [hm]
      clear H hM h3 e1 hm
      go_enter Try.func9, Try.ntmps9
      go_wp2
      go_ret2
      exact ⟨_, rfl, H3.out⟩
set_option maxHeartbeats 1600000 in
theorem drop_es (H : Own.St B w0 w (AEs p m room es :: Ps)) (hn : (es.map (·.1)).Nodup) (ha : a < 4294967296) :
    Calls Try.prog 11 #[ptr p, aV a] w fun e w' => ∃ es', e = .returned (.bool ((es.map (·.1)).contains a)) ∧ es'.map (·.1) = (es.map (·.1)).erase a ∧ Own.St B w0 w' (AEs p m room es' :: Ps) := by
  have h0 := es_open H
  have c0 := (h0.cellV 0 rfl 3 rfl).1
  by_cases hm : a ∈ es.map (·.1)
  · obtain ⟨x, hx, rfl⟩ := List.mem_map.1 hm
    obtain ⟨pre, post, rfl⟩ := List.append_of_mem hx
    obtain ⟨a, b⟩ := x
    have LK := mapLookN h0 1 rfl (a := a) ha (v := ptr b) (List.mem_map.2 ⟨(a, b), by simp, rfl⟩)
    have CR := Lib.hid (remove_any H hn ha)
    have hc : ((pre ++ (a, b) :: post).map (·.1)).contains a = true := by simp
    have he : ((pre ++ post).map (·.1)) = ((pre ++ (a, b) :: post).map (·.1)).erase a := by
      have h2 : a ∉ pre.map (·.1) := fun h => by
        obtain ⟨y, hy, e⟩ := List.mem_map.1 h
        exact kv_ne hn (kv y) (List.mem_map.2 ⟨y, List.mem_append_left _ hy, rfl⟩) e
      rw [List.map_append, List.map_append, List.map_cons, List.erase_append_right _ h2, List.erase_cons_head]
    simp only at hc he ⊢
    rw [hc]
    have HE := Lib.hid he
    clear H h0 hm hx hc he hn
    go_enter Try.func11, Try.ntmps11
    go_wp2_with (refine wpList_val rfl (look_exec rfl LK _ rfl rfl) ?_)
    refine CR.out.mono ?_
    rintro e w' ⟨rfl, h⟩
    have KH := Lib.hid h
    clear h CR
    go_wp2
    go_ret
    exact ⟨_, rfl, HE.out, KH.out⟩
  · have LK := mapLook0N h0 1 rfl (a := a) ha (kv_not hm)
    have hc : (es.map (·.1)).contains a = false := by simpa using hm
    have he : es.map (·.1) = (es.map (·.1)).erase a := (List.erase_of_not_mem hm).symm
    rw [hc]
    have HE := Lib.hid he
    have KH := Lib.hid H
    clear H h0 hm hc he hn
    go_enter Try.func11, Try.ntmps11
    go_wp2_with (refine wpList_val rfl (look_exec rfl LK _ rfl rfl) ?_)
    go_ret
    exact ⟨rfl, _, HE.out, KH.out⟩
theorem drop_any (a : Nat) (H : Own.St B w0 w (A p g :: Ps)) (ok : Ok g) (ha : a < 4294967296) :
    Calls Try.prog 11 #[ptr p, aV a] w fun e w' => e = .returned (.bool (has g a)) ∧ Own.St B w0 w' (A p (GhoM.drop g a) :: Ps) := by
  obtain ⟨m, es, he, h⟩ := A_open H
  refine (drop_es h (by rw [he]; exact ok.once) ha).mono ?_
  rintro e w' ⟨es', rfl, he', h'⟩
  rw [he] at he' ⊢
  exact ⟨rfl, A_close (g := GhoM.drop g a) he' rfl h'⟩
set_option maxHeartbeats 3200000 in
theorem ask_es (H : Own.St B w0 w (AEs p m room es :: Ps)) (hn : (es.map (·.1)).Nodup) (hf : ∀ x ∈ es.map (·.1), x < 4294967296) (hl : es.length ≤ room) (hr : room ≤ 4096) (ha : a < 4294967296) :
    Calls Try.prog 13 #[ptr p, aV a] w fun e w' => ∃ es', e = .returned (.bool ((es.map (·.1)).contains a)) ∧ (es'.map (·.1) = if (es.map (·.1)).contains a = true then (es.map (·.1)).erase a else (a :: es.map (·.1)).take room) ∧ Own.St B w0 w' (AEs p m room es' :: Ps) := by
  have CD := Lib.hid (drop_es H hn ha)
  by_cases hm : a ∈ es.map (·.1)
  · have hc : (es.map (·.1)).contains a = true := by simpa using hm
    rw [hc] at CD ⊢
    rw [if_pos rfl]
    clear H hn hf hm hc hl hr
    go_enter Try.func13, Try.ntmps13
    go_wp2_with (fail)
    refine CD.out.mono ?_
    rintro e w' ⟨es', rfl, he', h'⟩
    have KH := Lib.hid h'
    have HE := Lib.hid he'
    clear CD h' he'
    go_wp2
    go_ret
    exact ⟨_, rfl, HE.out, KH.out⟩
  · have hc : (es.map (·.1)).contains a = false := by simpa using hm
    rw [hc] at CD ⊢
    rw [if_neg (by simp), ]
    have HL := Lib.hid hl
    have HN := Lib.hid hn
    have HM := Lib.hid hm
    have HF := Lib.hid hf
    clear H hn hf hm hc hl
    go_enter Try.func13, Try.ntmps13
    go_wp2_with (fail)
    refine CD.out.mono ?_
    rintro e w1 ⟨es1, rfl, he, h1⟩
    rw [List.erase_of_not_mem HM.out] at he
    have hm1 : a ∉ es1.map (·.1) := by rw [he]; exact HM.out
    have hn1 : (es1.map (·.1)).Nodup := by rw [he]; exact HN.out
    have hl1 : es1.length ≤ room := by
      have := congrArg List.length he
      rw [List.length_map, List.length_map] at this
      rw [this]; exact HL.out
    have c0 := ((es_open h1).cellV 0 rfl 0 rfl).1
    have HE := Lib.hid he
    have HM1 := Lib.hid hm1
    have H1 := Lib.hid h1
    clear CD
    by_cases hz : room = 0
    · subst hz
      have hnil : es.map (·.1) = [] := by rw [← he, List.eq_nil_of_length_eq_zero (l := es1) (by omega)]; rfl
      have HNIL := Lib.hid hnil
      clear h1 he hm1 hn1 hl1 hr hnil
      go_wp2
      go_ret
      exact ⟨es1, rfl, by rw [HE.out, HNIL.out]; rfl, H1.out⟩
    · have hz2 : ¬ (room : Int) = 0 := by omega
      have hz3 : ((room : Int) == 0) = false := by simp; omega
      have CA := Lib.hid (add_any h1 hm1 ha (by omega))
      have HN1 := Lib.hid hn1
      have HL1 := Lib.hid hl1
      clear h1 he hm1 hn1 hl1
      go_wp2_with (fail)
      refine CA.out.mono ?_
      rintro e w2 ⟨rfl, b, h2⟩
      obtain ⟨n, hnn⟩ : ∃ n, n = es1.length + 1 := ⟨_, rfl⟩
      have hnl : n ≤ room + 1 := by rw [hnn]; have := HL1.out; omega
      have K2 := Lib.hid h2
      have HNN := Lib.hid hnn
      have FC : Hid (∀ wx, Below w2.heap.size w2 wx → wx.cell? ⟨p, 3, none⟩ = some (.map (some m)) ∧ wx.cell? ⟨p, 0, none⟩ = some (.int .i64 (room : Int)) ∧ ∀ ty, (Builtin.len_ #[44] ty #[.map (some m)]).run Try.prog wx = .ok (.int .i64 (n : Int)) wx) := by
        intro wx hw
        have h := es_open (K2.out.later hw)
        refine ⟨(h.cellV 0 rfl 3 rfl).1, (h.cellV 0 rfl 0 rfl).1, fun ty => ?_⟩
        have := mapLenN h 1 rfl ty
        rw [List.length_map, List.length_cons, ← HNN.out] at this
        exact this
      clear h2 hnn CA H1
      go_wp2_with (fail)
      obtain ⟨q, hq⟩ : ∃ q, q = decide (room < n) := ⟨_, rfl⟩
      have HQ := Lib.hid hq.symm
      clear hq
      refine wp_lax_list (by kernel_rfl) (by kernel_rfl) (by kernel_rfl) ?_
      refine wpL_move (ptr p) rfl (by kernel_rfl) (by kernel_rfl) (by kernel_rfl) (by kernel_rfl) ?_
      refine wpL_run1 (x := .tmp 20) (ptr p) (ptr p) (by kernel_rfl) (by kernel_rfl) (by kernel_rfl) (by kernel_rfl) (by kernel_rfl) (fun wx ρ hwx h0 hc => nilC rfl ρ wx h0) ?_
      refine wpL_run1 (x := .tmp 21) (ptr p) (.pointer (some ⟨p, 3, none⟩)) (by kernel_rfl) (by kernel_rfl) (by kernel_rfl) (by kernel_rfl) (by kernel_rfl) (fun wx ρ hwx h0 hc => fldL rfl (by decide) ρ wx h0) ?_
      refine wpL_run1 (x := .tmp 22) (.pointer (some ⟨p, 3, none⟩)) (.map (some m)) (by kernel_rfl) (by kernel_rfl) (by kernel_rfl) (by kernel_rfl) (by kernel_rfl) (fun wx ρ hwx h0 hc => by simp [h0, go_sem, (FC.out wx hwx).1]) ?_
      refine wpL_run1 (x := .tmp 23) (.map (some m)) (.int .i64 n) (by kernel_rfl) (by kernel_rfl) (by kernel_rfl) (by kernel_rfl) (by kernel_rfl) (fun wx ρ hwx h0 hc => by simp [h0, go_sem, (FC.out wx hwx).2.2]) ?_
      refine wpL_move (ptr p) rfl (by kernel_rfl) (by kernel_rfl) (by kernel_rfl) (by kernel_rfl) ?_
      refine wpL_run1 (x := .tmp 25) (ptr p) (ptr p) (by kernel_rfl) (by kernel_rfl) (by kernel_rfl) (by kernel_rfl) (by kernel_rfl) (fun wx ρ hwx h0 hc => nilC rfl ρ wx h0) ?_
      refine wpL_run1 (x := .tmp 26) (ptr p) (.pointer (some ⟨p, 0, none⟩)) (by kernel_rfl) (by kernel_rfl) (by kernel_rfl) (by kernel_rfl) (by kernel_rfl) (fun wx ρ hwx h0 hc => fldL rfl (by decide) ρ wx h0) ?_
      refine wpL_run1 (x := .tmp 27) (.pointer (some ⟨p, 0, none⟩)) (.int .i64 room) (by kernel_rfl) (by kernel_rfl) (by kernel_rfl) (by kernel_rfl) (by kernel_rfl) (fun wx ρ hwx h0 hc => by simp [h0, go_sem, (FC.out wx hwx).2.1]) ?_
      refine wpL_run2 (x := .tmp 24) (y := .tmp 28) (.int .i64 n) (.int .i64 room) (.bool q) (by kernel_rfl) (by kernel_rfl) (by kernel_rfl) (by kernel_rfl) (by kernel_rfl) (by kernel_rfl) (fun wx ρ hwx h0 h1 hc => by simp [h0, h1, go_sem, HQ.out]) ?_
      refine wpL_end (by kernel_rfl) (fun w3 hw3 => ?_)
      simp only [FinL, setL, List.set_cons_zero, List.set_cons_succ]
      have K3 := Lib.hid (K2.out.later hw3)
      clear K2 FC hw3
      by_cases hb : n ≤ room
      · have hqf : q = false := by rw [← HQ.out]; exact decide_eq_false (by omega)
        subst hqf
        clear HQ
        go_wp2
        go_ret
        refine ⟨_, rfl, ?_, K3.out⟩
        rw [List.map_cons, HE.out, List.take_of_length_le]
        rw [List.length_cons, ← HE.out, List.length_map, ← HNN.out]
        exact hb
      · have hqf : q = true := by rw [← HQ.out]; exact decide_eq_true (by omega)
        subst hqf
        clear HQ
        obtain ⟨pre, e, hpe⟩ : ∃ pre e, (a, b) :: es1 = pre ++ [e] := by
          rcases List.eq_nil_or_concat ((a, b) :: es1) with h | ⟨pr, d, h⟩
          · cases h
          · exact ⟨pr, d, by rw [h, List.concat_eq_append]⟩
        have h3 := K3.out
        rw [hpe] at h3
        have c5 : w3.cell? ⟨p, 2, none⟩ = some (ptr e.2) := by
          have := ((es_open h3).cellV 0 rfl 2 rfl).1
          rwa [la_snoc] at this
        have hnd : ((pre ++ (e.1, e.2) :: []).map (·.1)).Nodup := by
          show ((pre ++ [e]).map (·.1)).Nodup
          rw [← hpe, List.map_cons]
          exact List.nodup_cons.2 ⟨HM1.out, HN1.out⟩
        have hef : e.1 < 4294967296 := by
          have : e ∈ (a, b) :: es1 := by rw [hpe]; simp
          rcases List.mem_cons.1 this with h | h
          · rw [h]; exact ha
          · exact HF.out _ (by rw [← HE.out]; exact List.mem_map.2 ⟨e, h, rfl⟩)
        have CR := Lib.hid (remove_any (a := e.1) (b := e.2) (pre := pre) (post := []) h3 hnd hef)
        have HPE := Lib.hid hpe
        clear h3 hnd hef K3 hpe
        go_wp2_with (fail)
        refine CR.out.mono ?_
        rintro e4 w4 ⟨rfl, h4⟩
        have K4 := Lib.hid h4
        clear h4 CR
        go_wp2
        go_ret
        refine ⟨_, rfl, ?_, K4.out⟩
        have h5 := congrArg (List.map (·.1)) HPE.out
        rw [List.map_cons, HE.out, List.map_append] at h5
        have h6 := congrArg List.length HPE.out
        rw [List.length_cons, List.length_append, List.length_singleton, ← HNN.out] at h6
        have h7 : (pre.map (·.1)).length = room := by rw [List.length_map]; omega
        show _ = List.take room (a :: es.map (·.1))
        rw [h5, List.append_nil, ← h7, List.take_left]
theorem ask_any (a : Nat) (H : Own.St B w0 w (A p g :: Ps)) (ok : Ok g) (hr : g.room ≤ 4096) (ha : a < 4294967296) :
    Calls Try.prog 13 #[ptr p, aV a] w fun e w' => e = .returned (.bool (has g a)) ∧ Own.St B w0 w' (A p (GhoM.ask g a) :: Ps) := by
  obtain ⟨m, es, he, h⟩ := A_open H
  have hl : es.length ≤ g.room := by
    have := congrArg List.length he
    rw [List.length_map] at this
    rw [this]; exact ok.len
  refine (ask_es h (by rw [he]; exact ok.once) (by rw [he]; exact ok.fits) hl hr ha).mono ?_
  rintro e w' ⟨es', rfl, he', h'⟩
  rw [he] at he' ⊢
  refine ⟨rfl, A_close (g := GhoM.ask g a) ?_ ?_ h'⟩
  · rw [he']
    unfold GhoM.ask GhoM.has
    split <;> rfl
  · exact (ask_room g a).symm
end
end Gha
end Go.Proofs.Ytlnhkiamhmjckaa

end
section
namespace Go.Proofs.Ytlnhkiamhmjckaa
open Go.RowKit Go.Own Go.Maps
namespace Gha
open Go.GhoM Byt Gho
theorem info_u : (Try.prog.info? 33).map (fun i => (i.zero, i.size, i.bytes)) = some (some (.int .u32 0), 1, 4) := by kernel_rfl
theorem seg_at (od : Value) : ∀ (nw : Value) (es : List Nd) (i : Nat) (e : Nd), es[i]? = some e → ∃ nw', (seg nw es od)[i]? = some (nodeA e (hdV (es.drop (i + 1)) od) nw')
  | _, [], i, e, h => by simp at h
  | nw, f :: es, 0, e, h => by
    simp only [List.getElem?_cons_zero, Option.some.injEq] at h
    subst h
    exact ⟨nw, rfl⟩
  | nw, f :: es, i + 1, e, h => by
    rw [List.getElem?_cons_succ] at h
    exact seg_at od (ptr f.2) es i e h
section
variable {B : Nat} {w0 w : World} {Ps : List Asn} {p m room a b : Nat} {s t : List KV} {es : List Nd} {g : G}
theorem node_cells (H : Own.St B w0 w (AEs p m room es :: Ps)) {i : Nat} {e : Nd} (he : es[i]? = some e) : w.cell? ⟨e.2, 0, none⟩ = some (aV e.1) ∧ w.cell? ⟨e.2, 1, none⟩ = some (hdV (es.drop (i + 1)) nilP) := by
  have h := es_open H
  obtain ⟨nw, hs⟩ := seg_at nilP nilP es i e he
  have hi : i < (seg nilP es nilP).length := (List.getElem?_eq_some_iff.1 hs).1
  have h2 : (AVals p 47 (lC room (hdV es nilP) (laV nilP es) m) :: AOf m (es.map kv) :: (seg nilP es nilP ++ Ps))[i + 1 + 1]? = some (nodeA e (hdV (es.drop (i + 1)) nilP) nw) := by
    rw [List.getElem?_cons_succ, List.getElem?_cons_succ, List.getElem?_append_left hi, hs]
  exact ⟨(h.cellV _ h2 0 rfl).1, (h.cellV _ h2 1 rfl).1⟩
theorem makeCap (H : Own.St B w0 w Ps) (n : Nat) (hn : n ≤ 100000) :
    ∃ w' g, (Instr.makeSlice 29 (.int .i64 0) (.int .i64 (n : Int))).run Try.prog w = .ok (.slice (some ⟨g, 0, none⟩) 0 n) w' ∧ Own.St B w0 w' (RowU (.slice (some ⟨g, 0, none⟩) 0 n) [] 0 :: Ps) := by
  obtain ⟨i, hi, hz⟩ := Option.map_eq_some_iff.1 info_u
  simp only [Prod.mk.injEq] at hz
  obtain ⟨hz0, hz1, hz2⟩ := hz
  have hr := run_make (P := Try.prog) w 29 33 i (.int .u32 0) Try.underlying29 hi hz0 .i64 .i64 0 (n : Int) (Int.le_refl _) (by omega) (by rw [hz2]; omega) (by omega)
  refine ⟨w.alloc (.cells (madeCells (Value.int .u32 0).cells (n * 1)) 33), w.heap.size, by rw [hr, hz1]; simp, ?_⟩
  have hsz : (madeCells (Value.int .u32 0).cells (n * 1)).size = n * 1 := by unfold madeCells; simp
  have h1 := H.new (S' := fun k => k = w.heap.size) (ARow 33 1 (.slice (some ⟨w.heap.size, 0, none⟩) n n) n _) (Row.made w (madeCells (Value.int .u32 0).cells (n * 1)) 33 1 n (by unfold maxLen; omega) hsz) (((Step.refl (fun _ => False) w).alloc _).to (fun k hk => .inr (Nat.le_of_eq hk.symm)))
  have h2 := h1.rowCut 0 rfl 0 (Nat.zero_le _)
  simp only [List.set_cons_zero, Nat.zero_mul, List.take_zero] at h2
  exact h2
set_option maxHeartbeats 3200000 in
theorem all_es (H : Own.St B w0 w (AEs p m room es :: Ps)) (hl : es.length ≤ 5000) :
    Calls Try.prog 16 #[ptr p] w fun e w' => ∃ ao c, e = .returned (.slice ao es.length c) ∧ Own.St B w0 w' (RowU (.slice ao es.length c) (es.map (·.1)) es.length :: AEs p m room es :: Ps) := by
  obtain ⟨n, hn⟩ : ∃ n, n = es.length := ⟨_, rfl⟩
  rw [← hn]
  have c0 := ((es_open H).cellV 0 rfl 3 rfl).1
  have LN : ∀ ty, (Builtin.len_ #[44] ty #[.map (some m)]).run Try.prog w = .ok (.int .i64 (n : Int)) w := by
    intro ty
    have := mapLenN (es_open H) 1 rfl ty
    rwa [List.length_map, ← hn] at this
  obtain ⟨w1, g, MK, h1⟩ := makeCap H n (by omega)
  have c1 := ((es_open (h1.perm (List.Perm.swap _ _ _))).cellV 0 rfl 1 rfl).1
  have hn5 : n ≤ 5000 := by omega
  have HN := Lib.hid hn
  have H1 := Lib.hid h1
  obtain ⟨v, hv⟩ : ∃ v, v = hdV es nilP := ⟨_, rfl⟩
  rw [← hv] at c1
  have HV := Lib.hid hv
  clear H h1 hn hl hv
  go_enter Try.func16, Try.ntmps16
  go_wp2
  go_loopw [3, 4] (fun v3 v4 wr => ∃ (i : Nat) (ao : Option Addr) (c : Nat) (v : Value), i ≤ n ∧ v3 = .slice ao i c ∧ v4 = v ∧ v = hdV (es.drop i) nilP ∧ Own.St B w0 wr (RowU (.slice ao i c) ((es.take i).map (·.1)) i :: AEs p m room es :: Ps)) (fun v3 _ _ => match v3 with | .slice _ k _ => n - k | _ => 0)
  case atStart => exact ⟨0, _, _, _, Nat.zero_le _, rfl, rfl, HV.out, H1.out⟩
  case round =>
    obtain ⟨i, ao, c, v4, hin, rfl, hq4, hv4, hr⟩ := hrel
    by_cases hi : i < n
    · obtain ⟨e, he⟩ : ∃ e, es[i]? = some e := ⟨_, List.getElem?_eq_getElem (by rw [← HN.out]; exact hi)⟩
      have hd : es.drop i = e :: es.drop (i + 1) := by
        have h1 : i < es.length := (List.getElem?_eq_some_iff.1 he).1
        rw [List.drop_eq_getElem_cons h1]
        congr 1
        exact (List.getElem?_eq_some_iff.1 he).2
      have hv5 : v4 = ptr e.2 := by rw [hv4, hd]; rfl
      have ht : (es.take (i + 1)).map (·.1) = (es.take i).map (·.1) ++ [e.1] := by
        rw [List.take_add_one, he, List.map_append]
        rfl
      obtain ⟨x, b⟩ := e
      simp only at ht
      replace hv5 : v4 = ptr b := hv5
      rw [hv5] at hq4
      subst hq4
      have ca := (node_cells (hr.perm (List.Perm.swap _ _ _)) he).1
      have hA := hr.alloc (.cells #[aV x] 33)
      have HA := Lib.hid hA
      have CN : Hid (∀ a', some (⟨wr.heap.size, 0, none⟩ : Addr) = some a' → ∀ j u, [aV x][j]? = some u → (wr.alloc (.cells #[aV x] 33)).cell? (a'.add j) = some u) := by
        intro a' ha j u hu
        cases ha
        rw [add_of, Nat.zero_add]
        exact cell_of_block (heap_alloc_new wr _) (by simpa using hu)
      have HE := Lib.hid he
      have HT := Lib.hid ht
      clear hr hv4 hv5 hd ht he hA H1 HV c1 c0 LN MK
      go_wp2_with (at_builtin; refine wpList_many_append manyU rfl (.tmp 23) (.tmp 28) rfl HA.out 0 rfl rfl (some ⟨wr.heap.size, 0, none⟩) 1 1 [aV x] rfl (by intro h; cases h) rfl CN.out (by intro u hu; simp at hu; subst hu; rfl) (by omega) (by decide) ?_; intro a2 c2 w2 h2; simp only [List.set_cons_zero] at h2 ⊢; have H2 := Lib.hid h2; have c3 := (node_cells (h2.perm (List.Perm.swap _ _ _)) HE.out).2; clear h2)
      go_roundw
      case rel =>
        refine ⟨i + 1, a2, c2, _, by omega, rfl, rfl, rfl, ?_⟩
        have h := H2.out
        rw [show List.map aV (List.map (fun x => x.fst) (es.take i)) ++ [aV x] = (List.map (fun x => x.fst) (es.take (i + 1))).map aV by rw [HT.out, List.map_append]; rfl] at h
        exact h
      case measure => simp; omega
    · obtain rfl : i = n := by omega
      have hv5 : v4 = nilP := by rw [hv4, List.drop_of_length_le (by rw [← HN.out]; omega)]; rfl
      rw [hv5] at hq4
      subst hq4
      have HR := Lib.hid hr
      clear hr hv4 hv5 H1 HV c1 c0 LN MK
      go_wp2
      go_ret
      refine ⟨ao, c, rfl, ?_⟩
      have h := HR.out
      rw [List.take_of_length_le (by rw [← HN.out]; omega)] at h
      exact h
theorem all_any (H : Own.St B w0 w (A p g :: Ps)) (ok : Ok g) (hr : g.room ≤ 4096) :
    Calls Try.prog 16 #[ptr p] w fun e w' => ∃ ao c, e = .returned (.slice ao g.L.length c) ∧ Own.St B w0 w' (RowU (.slice ao g.L.length c) g.L g.L.length :: A p g :: Ps) := by
  obtain ⟨m, es, he, h⟩ := A_open H
  have hlen : es.length = g.L.length := by rw [← he, List.length_map]
  refine (all_es h (by have := ok.len; omega)).mono ?_
  rintro e w' ⟨ao, c, rfl, h'⟩
  rw [he, hlen] at h'
  rw [hlen]
  exact ⟨ao, c, rfl, (A_close (g := g) he rfl (h'.perm (List.Perm.swap _ _ _))).perm (List.Perm.swap _ _ _)⟩
end
theorem nil_drop (a : Nat) (w : World) : Calls Try.prog 11 #[.pointer none, aV a] w fun e w' => e = .returned (.bool false) ∧ Below w.heap.size w w' := by
  go_enter Try.func11, Try.ntmps11
  go_wp2
  go_ret
  exact ⟨rfl, Below.refl _ _⟩
theorem nil_ask (a : Nat) (w : World) : Calls Try.prog 13 #[.pointer none, aV a] w fun e w' => e = .returned (.bool false) ∧ Below w.heap.size w w' := by
  have CD := Lib.hid (nil_drop a w)
  go_enter Try.func13, Try.ntmps13
  go_wp2_with (fail)
  refine CD.out.mono ?_
  rintro e w1 ⟨rfl, h1⟩
  have H1 := Lib.hid h1
  clear h1
  go_wp2
  go_ret
  exact ⟨rfl, H1.out⟩
theorem nil_all (w : World) : Calls Try.prog 16 #[.pointer none] w fun e w' => ∃ ao c, e = .returned (.slice ao 0 c) ∧ Below w.heap.size w w' := by
  go_enter Try.func16, Try.ntmps16
  go_wp2
  go_ret
  exact ⟨none, 0, rfl, Below.refl _ _⟩
end Gha
namespace Gho
open Go.GhoM Byt
def kept (W : World) : Kept W where
  A := Gha.A
  new num _ H hr := Gha.new_any num H hr
  ask a _ H ok hr ha := Gha.ask_any a H ok hr ha
  drop a _ H ok _ ha := Gha.drop_any a H ok ha
  all _ H ok hr := Gha.all_any H ok hr
  nilAsk a _ _ := Gha.nil_ask a _
  nilDrop a _ _ := Gha.nil_drop a _
  nilAll _ := Gha.nil_all _
end Gho
end Go.Proofs.Ytlnhkiamhmjckaa

end
