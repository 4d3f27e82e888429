/- The landed flash: Barrier, Crash. -/
import Derived.Test.YtepllhfofhehaaaFlbI
import Derived.Test.YtepllhfofhehaaaFlaD
namespace Go.Proofs.Ytepllhfofhehaaa
open Go.RowKit Go.Own
namespace Fla
open Go.FlaM Byt
theorem whole_any (i : Int) (w : World) : Calls Try.prog 51 #[.int .i64 i] w fun e w' => e = .returned (.int .i64 9223372036854775807) ∧ Below w.heap.size w w' := by
  go_enter Try.func51, Try.ntmps51
  go_wp2
  go_ret
  exact ⟨rfl, Below.refl _ _⟩
section
variable {B : Nat} {w0 w : World} {Ps : List Asn} {p : Nat} {s : FS} {N : Nat}
/-- what settle makes of a flash -/
theorem settle_fl {x : Hidden} (H : Own.St B w0 w (flParts p x s ++ Ps)) (hsh : Shape s.safe s.safe.length s.pp) (hsg : s.safe.length ≤ 256) (hpp : 1 ≤ s.pp ∧ s.pp ≤ 64) (hacts : ∀ a ∈ s.L, ActOk s.safe.length s.pp a) (hL : s.L.length ≤ 10000)
    (f : FuncId) (caps : Array Value) (φ : Nat → Int) (hφ : ∀ i, i64B (φ i)) (hent : ∀ (args : Array Value) w, (callFunc f args).run Try.prog w = .ok (.enter f args) w)
    (hf : ∀ (i : Nat) (wx : World) (Xs : List Asn), i < s.L.length → Own.St B w0 wx (Xs ++ (gridT (.slice x.aN s.safe.length x.cN) (nowG s.pp s.safe s.L) :: ARow 3 1 x.vW s.wear.length (s.wear.map intV) :: Ps)) → Calls Try.prog f (#[.int .i64 (i : Int)] ++ caps) wx fun e w' => e = .returned (.int .i64 (φ i)) ∧ Below wx.heap.size wx w') :
    Calls Try.prog 37 #[ptr p, .func (.func f) #[] caps] w fun e w' => e = .returned (.tuple #[]) ∧ Own.St B w0 w' (AVals p 65 (flCells s.pp (.slice x.aN s.safe.length x.cN) (.slice x.aS s.safe.length x.cS) (.slice none 0 0) x.vW s.n s.off x.armed x.lf) :: gridT (.slice x.aS s.safe.length x.cS) (doAllF s.pp φ s.safe 0 s.L) :: ARow 78 131 (.slice none 0 0) 0 [] :: gridT (.slice x.aN s.safe.length x.cN) (nowG s.pp s.safe s.L) :: ARow 3 1 x.vW s.wear.length (s.wear.map intV) :: Ps) :=
  settle_st (nn := s.safe.length) (G := s.safe) (L := s.L) f caps φ (H.perm (perm_s _ _ _ _ _)) hsh hsg hpp hacts hL hφ hent hf
theorem perm_s' {α : Type _} (a b c d : α) (r : List α) : (a :: b :: c :: d :: r).Perm (a :: d :: b :: c :: r) := (perm_s a d b c r).symm
set_option maxHeartbeats 800000 in
theorem barrier_any (H : Own.St B w0 w (AFl p s :: Ps)) (ok : Ok s N) (hN : N ≤ 10000) :
    Calls Try.prog 25 #[ptr p] w fun e w' => e = .returned (errV (barrier s).2) ∧ Own.St B w0 w' (AFl p (barrier s).1 :: Ps) := by
  obtain ⟨x, hx, h⟩ := flOpen H
  have HB := Lib.hid (begin_fl h hx ok hN)
  by_cases ho : (trip s).off = true
  · have HE : Hid (barrier s = (trip s, 6)) := by
      show barrier s = (trip s, 6)
      unfold barrier
      rw [if_pos ho]
    have HB2 : Hid (Calls Try.prog 40 #[ptr p] w fun e w' => e = .returned (errV 6) ∧ Own.St B w0 w' (AFl p (trip s) :: Ps)) := by
      refine HB.out.mono ?_
      intro e w' h'
      rw [if_pos ho] at h'
      obtain ⟨he, x', hx', h2⟩ := h'
      exact ⟨he, flClose hx' h2⟩
    rw [HE.out]
    clear ho H h HB ok hx
    go_enter Try.func25, Try.ntmps25
    go_wp2_with (fail)
    refine HB2.out.mono ?_
    clear HB2
    rintro e w2 ⟨rfl, h2⟩
    have H2 := Lib.hid h2
    clear h2
    go_wp2
    go_ret
    exact ⟨rfl, H2.out⟩
  · obtain ⟨t, htt⟩ : ∃ t, t = okd (trip s) := ⟨_, rfl⟩
    have HB2 : Hid (Calls Try.prog 40 #[ptr p] w fun e w' => e = .returned (errV 0) ∧ ∃ x', HRel x' t ∧ Own.St B w0 w' (flParts p x' t ++ Ps)) := by
      refine HB.out.mono ?_
      intro e w' h'
      rw [if_neg ho, ← htt] at h'
      exact h'
    have g := ok_trip ok
    have hsh : Shape t.safe t.safe.length t.pp := by rw [htt]; exact g.shape
    have hsg : t.safe.length ≤ 256 := by rw [htt]; exact g.segs
    have hpp : 1 ≤ t.pp ∧ t.pp ≤ 64 := by rw [htt]; exact g.pp
    have hacts : ∀ a ∈ t.L, ActOk t.safe.length t.pp a := by rw [htt]; exact g.acts
    have hL : t.L.length ≤ 10000 := by rw [htt]; show (trip s).L.length ≤ _; rw [(trip_safe s).2.1]; have := ok.log; have := ok.n; omega
    have HE : Hid (barrier s = ({ t with safe := nowG t.pp t.safe t.L, L := [] }, 0)) := by
      show barrier s = _
      unfold barrier
      rw [if_neg ho, htt]
      unfold some' okd
      simp only
      rw [doAll_whole _ _ _ 0 (fun j hj => by rw [Nat.zero_add]; simp [List.getD, List.getElem?_replicate, hj])]
    have SET : Hid (∀ (wx : World) (x' : Hidden), HRel x' t → Own.St B w0 wx (flParts p x' t ++ Ps) → Calls Try.prog 37 #[ptr p, .func (.func 51) #[] #[]] wx fun e w' => e = .returned (.tuple #[]) ∧ Own.St B w0 w' (AFl p { t with safe := nowG t.pp t.safe t.L, L := [] } :: Ps)) := by
      intro wx x' hx' hst
      refine (settle_fl hst hsh hsg hpp hacts hL 51 #[] (fun _ => 9223372036854775807) (fun _ => by unfold i64B; omega) (fun _ _ => by simp [go_sem]) (fun i wy _ _ _ => whole_any i wy)).mono ?_
      rintro e w' ⟨he, h'⟩
      refine ⟨he, flClose (x := { x' with vP := .slice none 0 0 }) ⟨hx'.i64, hx'.on, hx'.pos⟩ ?_⟩
      rw [doAllF_big hpp.2 _ (fun _ => by decide)] at h'
      have h2 := h'.perm (perm_s' _ _ _ _ _)
      unfold flParts
      simp only [nowG_len]
      exact h2
    rw [HE.out]
    clear ho H h HB ok hx htt g hsh hsg hpp hacts hL
    go_enter Try.func25, Try.ntmps25
    go_wp2_with (fail)
    refine HB2.out.mono ?_
    clear HB2
    rintro e w2 ⟨rfl, x', hx', h2⟩
    have S2 := Lib.hid (SET.out w2 x' hx' h2)
    clear h2 SET hx'
    go_wp2_with (fail)
    refine S2.out.mono ?_
    clear S2
    rintro e w3 ⟨rfl, h3⟩
    have H3 := Lib.hid h3
    clear h3
    go_wp2
    go_ret
    exact ⟨rfl, H3.out⟩

/-- numbers that a call may read, later -/
theorem liesI_at {ao : Option Addr} {n cap : Nat} {l : List Int} {Qs Zs : List Asn} {wx : World} (h : LiesI B w Ps ao n cap l) (H : Own.St B w0 w Qs) (hx : Own.St B w0 wx (Ps ++ Zs)) (j : Nat) (hj : j < n) :
    ∃ b o, ao = some ⟨b, o, none⟩ ∧ wx.cell? ⟨b, o + j, none⟩ = some (.int .i64 (l.getD j 0)) := by
  have hjl : j < l.length := by rw [h.size]; exact hj
  rcases h.where_ with ⟨j0, b, h1, h2⟩ | h1
  · refine ⟨b, 0, h2, ?_⟩
    have h3 : (Ps ++ Zs)[j0]? = some (AVals b 3 (l.map (Value.int .i64))) := by rw [List.getElem?_append_left (List.getElem?_eq_some_iff.1 h1).1]; exact h1
    rw [Nat.zero_add]
    refine (hx.cellV j0 h3 j ?_).1
    simp [List.getD, hjl]
  · have h2 : IView wx B ao l := IView.same' h1 (Below.both H.below hx.below) hx.size
    rcases h2 with h2 | ⟨b, o, e, _, _, hc⟩
    · rw [h2] at hjl; simp at hjl
    · exact ⟨b, o, e, (hc j hjl).1⟩
theorem fates_any (i : Nat) (hi : i ≤ 1000000) (bx : Nat) (ao : Option Addr) (n cap : Nat) (l : List Int) (hl : l.length = n) (hn : n ≤ cap ∧ cap ≤ maxLen) (wx : World) (hb : wx.cell? ⟨bx, 0, none⟩ = some (.slice ao n cap)) (hc : i < n → ∃ b o, ao = some ⟨b, o, none⟩ ∧ wx.cell? ⟨b, o + i, none⟩ = some (.int .i64 (l.getD i 0))) :
    Calls Try.prog 38 (#[.int .i64 (i : Int)] ++ #[.pointer (some ⟨bx, 0, none⟩)]) wx fun e w' => e = .returned (.int .i64 (l.getD i 0)) ∧ Below wx.heap.size wx w' := by
  show Calls Try.prog 38 #[.int .i64 (i : Int), .pointer (some ⟨bx, 0, none⟩)] wx _
  obtain ⟨hn1, hn2⟩ := hn
  unfold maxLen at hn2
  by_cases h : i < n
  · obtain ⟨b, o, rfl, cc⟩ := hc h
    obtain ⟨v, hv⟩ : ∃ v, v = l.getD i 0 := ⟨_, rfl⟩
    rw [← hv] at cc ⊢
    clear hc hv hl
    go_enter Try.func38, Try.ntmps38
    go_wp2
    go_ret
    exact ⟨rfl, Below.refl _ _⟩
  · have e : l.getD i 0 = 0 := by rw [List.getD_eq_getElem?_getD, List.getElem?_eq_none (by omega)]; rfl
    rw [e]
    clear hc e hl
    go_enter Try.func38, Try.ntmps38
    go_wp2
    go_ret
    exact ⟨rfl, Below.refl _ _⟩
set_option maxHeartbeats 1600000 in
theorem crash_any (H : Own.St B w0 w (AFl p s :: Ps)) (ok : Ok s N) (hN : N ≤ 10000) (ao : Option Addr) (n cap : Nat) (l : List Int) (hl : LiesI B w Ps ao n cap l) :
    Calls Try.prog 16 #[ptr p, .slice ao n cap] w fun e w' => e = .returned (.tuple #[]) ∧ Own.St B w0 w' (AFl p (crash s l) :: Ps) := by
  obtain ⟨x, hx, h⟩ := flOpen H
  have hL : s.L.length ≤ 10000 := by have := ok.log; have := ok.n; omega
  obtain ⟨bx, hbx⟩ : ∃ b, b = w.heap.size := ⟨_, rfl⟩
  have hbox := h.boxV 33 [.slice ao n cap]
  obtain ⟨W1, hW1⟩ : ∃ W, W = w.alloc (.cells #[.slice ao n cap] 33) := ⟨_, rfl⟩
  have hb1 : Own.St B w0 W1 (flParts p x s ++ (AVals bx 33 [.slice ao n cap] :: Ps)) := by
    rw [hW1, hbx]
    exact hbox.perm (List.perm_middle (l₁ := flParts p x s)).symm
  obtain ⟨S1, hS1⟩ : ∃ S, S = doAll s.pp l s.safe 0 s.L := ⟨_, rfl⟩
  have hsh1 : Shape S1 s.safe.length s.pp := by rw [hS1]; exact shape_all l s.L s.safe 0 ok.shape ok.acts
  have hF : doAllF s.pp (fun i => l.getD i 0) s.safe 0 s.L = S1 := by rw [hS1, doAll_F]
  have hi64 : ∀ i, i64B (l.getD i 0) := by
    intro i
    by_cases hi : i < n
    · exact hl.ints i hi
    · rw [List.getD_eq_getElem?_getD, List.getElem?_eq_none (by have := hl.size; omega)]
      unfold i64B; simp
  have SET : Hid (Calls Try.prog 37 #[ptr p, .func (.func 38) #[] #[.pointer (some ⟨bx, 0, none⟩)]] W1 fun e w' => e = .returned (.tuple #[]) ∧ Own.St B w0 w' (AVals p 65 (flCells s.pp (.slice x.aN s.safe.length x.cN) (.slice x.aS s.safe.length x.cS) (.slice none 0 0) x.vW s.n s.off x.armed x.lf) :: gridT (.slice x.aS s.safe.length x.cS) S1 :: ARow 78 131 (.slice none 0 0) 0 [] :: ARow 3 1 x.vW s.wear.length (s.wear.map intV) :: Ps)) := by
    refine (settle_fl hb1 ok.shape ok.segs ok.pp ok.acts hL 38 #[.pointer (some ⟨bx, 0, none⟩)] (fun i => l.getD i 0) hi64 (fun _ _ => by simp [go_sem]) ?_).mono ?_
    · intro i wx Xs hi hst
      have h2 := hst.perm List.perm_append_comm
      have hbc := (h2.cellV 2 rfl 0 rfl).1
      refine fates_any i (by omega) bx ao n cap l hl.size hl.room wx hbc (fun hin => ?_)
      have h3 := (h2.drop 3)
      exact liesI_at hl H (by simpa using h3) i hin
    · rintro e w' ⟨he, h'⟩
      refine ⟨he, ?_⟩
      rw [hF] at h'
      have h2 := (h'.front 3 rfl).drop 1
      simp only [List.eraseIdx_cons_succ, List.eraseIdx_cons_zero, List.drop_succ_cons, List.drop_zero] at h2
      have h3 := (h2.front 4 rfl).drop 1
      simp only [List.eraseIdx_cons_succ, List.eraseIdx_cons_zero, List.drop_succ_cons, List.drop_zero] at h3
      exact h3
  have CLN : Hid (∀ wx, Own.St B w0 wx (AVals p 65 (flCells s.pp (.slice x.aN s.safe.length x.cN) (.slice x.aS s.safe.length x.cS) (.slice none 0 0) x.vW s.n s.off x.armed x.lf) :: gridT (.slice x.aS s.safe.length x.cS) S1 :: ARow 78 131 (.slice none 0 0) 0 [] :: ARow 3 1 x.vW s.wear.length (s.wear.map intV) :: Ps) → Calls Try.prog 33 #[.slice x.aS s.safe.length x.cS] wx fun e w' => ∃ a' c', e = .returned (.slice a' s.safe.length c') ∧ Own.St B w0 w' (AVals p 65 (flCells s.pp (.slice x.aN s.safe.length x.cN) (.slice x.aS s.safe.length x.cS) (.slice none 0 0) x.vW s.n s.off x.armed x.lf) :: gridT (.slice a' s.safe.length c') S1 :: gridT (.slice x.aS s.safe.length x.cS) S1 :: ARow 78 131 (.slice none 0 0) 0 [] :: ARow 3 1 x.vW s.wear.length (s.wear.map intV) :: Ps)) := by
    intro wx hst
    refine (clone_st hst.swap2 hsh1 ok.segs ok.pp).mono ?_
    rintro e w' ⟨a', c', he, h'⟩
    rw [hsh1.len] at he h'
    refine ⟨a', c', he, ?_⟩
    have h2 := (h'.front 2 rfl)
    simp only [List.eraseIdx_cons_succ, List.eraseIdx_cons_zero] at h2
    exact h2
  have FIN : Hid (∀ wx a' c', Own.St B w0 wx (AVals p 65 (flCells s.pp (.slice a' s.safe.length c') (.slice x.aS s.safe.length x.cS) (.slice none 0 0) x.vW s.n false false x.lf) :: gridT (.slice a' s.safe.length c') S1 :: gridT (.slice x.aS s.safe.length x.cS) S1 :: ARow 78 131 (.slice none 0 0) 0 [] :: ARow 3 1 x.vW s.wear.length (s.wear.map intV) :: Ps) → Own.St B w0 wx (AFl p (crash s l) :: Ps)) := by
    intro wx a' c' hst
    refine flClose (x := { x with aN := a', cN := c', vP := .slice none 0 0, armed := false }) ⟨hx.i64, fun _ => ⟨fun h => (by cases h), fun _ => rfl⟩, fun h => (by cases h)⟩ ?_
    unfold flParts crash some'
    simp only [← hS1, hsh1.len]
    exact hst
  have HW1 := Lib.hid hW1
  have HBX := Lib.hid hbx
  clear H h hL hbox hb1 hS1 hsh1 hF hi64 ok hl hW1 hbx hx
  go_enter Try.func16, Try.ntmps16
  go_wp2_with (fail)
  rw [← HW1.out, ← HBX.out]
  clear HW1 HBX
  refine SET.out.mono ?_
  clear SET
  rintro e w2 ⟨rfl, h2⟩
  have c2 := (h2.cellV 0 rfl 2 rfl).1
  have C2 := Lib.hid (CLN.out w2 h2)
  clear h2 CLN
  go_wp2_with (fail)
  refine C2.out.mono ?_
  clear C2 c2
  rintro e w3 ⟨a3, c3, rfl, h3⟩
  have q1 := (h3.cellV 0 rfl 1 rfl)
  have h4 := h3.storeV 0 rfl 1 (.slice a3 s.safe.length c3)
  have q2 := (h4.cellV 0 rfl 6 rfl)
  have h5 := h4.storeV 0 rfl 6 (.bool false)
  have q3 := (h5.cellV 0 rfl 7 rfl)
  have h6 := h5.storeV 0 rfl 7 (.bool false)
  have H6 := Lib.hid (FIN.out _ a3 c3 h6)
  clear h3 h4 h5 h6 FIN
  go_wp2
  go_end0
  exact ⟨rfl, H6.out⟩
end
end Fla
end Go.Proofs.Ytepllhfofhehaaa
