/- Merged: StbG LaxD StbF StoD StoE LawStoA StoI StoC -/
import Derived.Sort.Grow
import Derived.Lib.BytesEntry
import Derived.Shelf.SlSortCmp.WholeK
import Derived.Shelf.SlSortCmp.NoneTotal
import Derived.WideKeyEntry
import Derived.Test.YtcfdjoohbicomaaR1
import Derived.Test.YtcfdjoohbicomaaR2
set_option linter.unusedVariables false
section
namespace Go.Proofs.Ytcfdjoohbicomaa
open Go.RowKit Go.Own Go.Maps
namespace Sto
open Go.StoM Byt
theorem built_ch0 (f : Nat → Value) (a b c d : Int) : Try.prog.built 51 [(0, .agg ((List.range 33).map f).toArray), (1, .agg #[iS a, iS b, iS c]), (2, iS d)] = some ((List.range 33).map f ++ [iS a, iS b, iS c, iS d]).toArray := by kernel_rfl
theorem built_chk (kc : List Value) (h : kc.length = 33) (a b c d : Int) : Try.prog.built 51 [(0, .agg kc.toArray), (1, .agg #[iS a, iS b, iS c]), (2, iS d)] = some (kc ++ [iS a, iS b, iS c, iS d]).toArray := by
  have hrm : (List.range 33).map (fun i => kc.getD i undef) = kc := by
    apply List.ext_getElem
    · simp [h]
    · intro i h1 h2
      simp [List.getD, h2]
  have h := built_ch0 (fun i => kc.getD i undef) a b c d
  rw [hrm] at h
  exact h
def wR (c : Ch) (x : Int) : Ch := ⟨c.key, c.place, x⟩
def wP (c : Ch) (q : Pl) : Ch := ⟨c.key, q, c.refs⟩
theorem getS_at {l : List Ch} {k : Ky} (h : isAt l k = true) : getS l k = atS l k := by unfold getS; rw [if_pos h]
theorem chC_set_refs {c : Ch} (h : FitK c.key) (x : Int) : (chC c).set 36 (iS x) = chC (wR c x) := by
  unfold chC
  rw [List.set_append_right _ _ (by rw [kC_len h]; omega), kC_len h]
  rfl
theorem chC_set3 {c : Ch} (h : FitK c.key) (a b d : Int) : (((chC c).set 33 (.int .i64 a)).set 34 (.int .i64 b)).set 35 (.int .i64 d) = chC (wP c ⟨a, b, d⟩) := by
  unfold chC
  have hk := kC_len h
  rw [List.set_append_right _ _ (by omega), List.set_append_right _ _ (by omega), List.set_append_right _ _ (by omega), hk]
  rfl
theorem wpList_del {P : Program} {ops : Array Oper} {rest : List Oper} {o : Oper} {a : Go.Act} {w w' : World} {Q : Exit → Go.Act → World → Prop} {t k : TypeId} (hgd : o.guard = none) (m x : Operand) (ho : o.op = .call { callee := .builtin .delete, args := #[m, x], argTypes := #[t, k] }) {vm vx : Value} (hm : a.eval m = vm) (hx : a.eval x = vx)
    (hrun : (Builtin.delete_ #[t, k] o.type #[vm, vx]).run P w = .ok (.tuple #[]) w') (h : wpList P ops Q rest (a.put o.dst (.tuple #[])) w') : wpList P ops Q (o :: rest) a w := by
  refine wpList_plain hgd fun K hK => ?_
  unfold Oper.wp
  simp [execOp, ho, resolve, invoke, builtin, hm, hx, hrun, Result.andThen]
  exact hK _ _ h
theorem addS_fst (l : List Ch) (k : Ky) (q : Pl) : (addS l k q).1 = if isAt l k = true then l else putS l ⟨k, q, 1⟩ := by
  unfold addS
  cases h : isAt l k
  · rw [putS_new (c := ⟨k, q, 1⟩) h]; rfl
  · rfl
theorem addS_snd (l : List Ch) (k : Ky) (q : Pl) : (addS l k q).2 = if isAt l k = true then 3 else 0 := by
  unfold addS
  cases isAt l k <;> rfl
theorem refS_yes {l : List Ch} {k : Ky} (h : isAt l k = true) : refS l k = (putS l (wR (getS l k) ((getS l k).refs + 1)), 0) := by
  unfold refS
  have e := putS_act h (wR (atS l k) ((atS l k).refs + 1)) (at_mem h).2
  rw [if_pos h, getS_at h, e]
  rfl
theorem refS_no {l : List Ch} {k : Ky} (h : isAt l k = false) : refS l k = (l, 2) := by unfold refS; rw [h]; rfl
theorem moveS_yes {l : List Ch} {k : Ky} (h : isAt l k = true) (q : Pl) : moveS l k q = (putS l (wP (getS l k) q), 0) := by
  unfold moveS
  have e := putS_act h (wP (atS l k) q) (at_mem h).2
  rw [if_pos h, getS_at h, e]
  rfl
theorem moveS_no {l : List Ch} {k : Ky} (h : isAt l k = false) (q : Pl) : moveS l k q = (l, 2) := by unfold moveS; rw [h]; rfl
theorem unrefS_no {l : List Ch} {k : Ky} (h : isAt l k = false) : unrefS l k = (l, false, 2) := by unfold unrefS; rw [h]; rfl
theorem unrefS_more {l : List Ch} {k : Ky} (h : isAt l k = true) (h2 : (getS l k).refs - 1 > 0) : unrefS l k = (putS l (wR (getS l k) ((getS l k).refs - 1)), false, 0) := by
  unfold unrefS
  rw [if_pos h, getS_at h] at *
  have e := putS_act h (wR (atS l k) ((atS l k).refs - 1)) (at_mem h).2
  rw [if_pos h2, e]
  rfl
theorem unrefS_last {l : List Ch} {k : Ky} (h : isAt l k = true) (h2 : ¬ (getS l k).refs - 1 > 0) : unrefS l k = (l.eraseIdx (posK k l), true, 0) := by
  unfold unrefS
  rw [getS_at h] at h2
  rw [if_pos h, if_neg h2]
theorem rot2 (a b c : Asn) (Ps : List Asn) : (a :: b :: c :: Ps).Perm (c :: a :: b :: Ps) := ((List.Perm.swap c b Ps).cons a).trans (List.Perm.swap c a _)
theorem rot3 (a b c d : Asn) (Ps : List Asn) : (a :: b :: c :: d :: Ps).Perm (d :: a :: b :: c :: Ps) := ((rot2 b c d Ps).cons a).trans (List.Perm.swap d a _)
theorem tail2 {B : Nat} {w0 w : World} {a b c : Asn} {Ps : List Asn} (h : Own.St B w0 w (c :: a :: b :: Ps)) : Own.St B w0 w (c :: Ps) := (h.drop2).drop2
theorem tail3 {B : Nat} {w0 w : World} {a b c d : Asn} {Ps : List Asn} (h : Own.St B w0 w (d :: a :: b :: c :: Ps)) : Own.St B w0 w (d :: Ps) := (h.drop2).drop2.drop2
section
variable {B : Nat} {w0 w : World} {Ps : List Asn} {p : Nat} {l : List Ch}
set_option maxRecDepth 10000 in
set_option maxHeartbeats 3200000 in
theorem add_any (H : Own.St B w0 w (AS p l :: Ps)) (ok : Ok l) (hn : l.length ≤ 1000000) {k : Ky} (hk : FitK k) {q : Pl} (hq : FitP q) : Calls Try.prog 25 #[ptr p, kV k, pV q] w fun e w' => e = .returned (errS (addS l k q).2) ∧ Own.St B w0 w' (AS p (addS l k q).1 :: Ps) := by
  obtain ⟨kc, hkc⟩ : ∃ c, c = kC k := ⟨_, rfl⟩
  obtain ⟨F, hF⟩ : ∃ c, c = chC (getS l k) := ⟨_, rfl⟩
  have FL : Hid (F.length = 37) := by show _ = _; rw [hF]; exact chC_len (getS_fit ok k).key
  have FO : Hid (∀ u ∈ F, u.oneCell' = true) := by show ∀ u ∈ F, _; rw [hF]; exact chC_one _
  have KL : Hid (kc.length = 33) := by show _ = _; rw [hkc]; exact kC_len hk
  have CG : Hid (∀ wx, Below w.heap.size w wx → Calls Try.prog 18 #[ptr p, .agg kc.toArray] wx fun e w' => e = .returned (.tuple #[.agg F.toArray, .bool (isAt l k)]) ∧ Below wx.heap.size wx w') := by
    rw [hkc, hF]
    exact fun wx hwx => get_any (H.later hwx) ok hk
  have HF := Lib.hid hF
  have HK := Lib.hid hkc
  have OK := Lib.hid ok
  have FK := Lib.hid hk
  obtain ⟨qs, qg, qn⟩ := q
  have HQ := Lib.hid hq
  have hb0 := H.boxV 35 kc
  obtain ⟨bk, hbk⟩ : ∃ b, b = w.heap.size := ⟨_, rfl⟩
  obtain ⟨W0, hW0⟩ : ∃ W, W = w.alloc (.cells kc.toArray 35) := ⟨_, rfl⟩
  rw [← hW0, ← hbk] at hb0
  have hb1 := hb0.boxV 37 [iS qs, iS qg, iS qn]
  obtain ⟨bq, hbq⟩ : ∃ b, b = W0.heap.size := ⟨_, rfl⟩
  obtain ⟨W1, hW1⟩ : ∃ W, W = W0.alloc (.cells #[iS qs, iS qg, iS qn] 37) := ⟨_, rfl⟩
  have hW1' : W0.alloc (.cells [iS qs, iS qg, iS qn].toArray 37) = W1 := hW1.symm
  rw [hW1', ← hbq] at hb1
  have H1 := Lib.hid hb1
  have E0 := hW0.symm
  have E1 := hW1.symm
  have EK := hbk.symm
  have EB := hbq.symm
  have BW : Hid (Below w.heap.size w W1) := by rw [hW1, hW0]; exact (((Own.St.start w).alloc _).alloc _).below
  have hfit : Fit ⟨k, ⟨qs, qg, qn⟩, 1⟩ := ⟨hk, hq, ⟨by show (-9223372036854775808 : Int) ≤ 1; decide, by show (1 : Int) ≤ 9223372036854775807; decide⟩⟩
  have BC : Hid (Try.prog.built 51 [(0, .agg kc.toArray), (1, .agg #[iS qs, iS qg, iS qn]), (2, iS 1)] = some (kc ++ [iS qs, iS qg, iS qn, iS 1]).toArray) := built_chk kc KL.out _ _ _ _
  obtain ⟨N, hN⟩ : ∃ N, N = kc ++ [iS qs, iS qg, iS qn, iS 1] := ⟨_, rfl⟩
  rw [← hN] at BC
  have CP : Hid (∀ {Q : List Asn} (wx : World), Own.St B w0 wx (AS p l :: Q) → Calls Try.prog 35 #[ptr p, .agg N.toArray] wx fun e w' => e = .returned (.tuple #[]) ∧ Own.St B w0 w' (AS p (putS l ⟨k, ⟨qs, qg, qn⟩, 1⟩) :: Q)) := by
    have e : N = chC ⟨k, ⟨qs, qg, qn⟩, 1⟩ := by rw [hN, hkc]; rfl
    rw [e]
    exact fun {Q} wx h => put_any h ok hn hfit
  show Calls Try.prog _ #[_, .agg (kC k).toArray, .agg #[iS qs, iS qg, iS qn]] w _
  rw [addS_fst, addS_snd, ← hkc]
  clear hkc hF hb1 hbk hW1 hW1' ok hk H hq hW0 hbq hb0 hN hfit
  cases his : isAt l k
  · rw [his] at CG
    rw [if_neg (by simp), if_neg (by simp)]
    clear his
    go_enter Try.func25, Try.ntmps25
    go_wp2_with (refine wpList_val rfl (Rec.load_key kc KL.out rfl _ (b := bk) (k := 0) (H1.out.boxRange 1 rfl) rfl) ?_)
    refine (CG.out _ BW.out).mono ?_
    rintro e w2 ⟨rfl, h2⟩
    have H2 := Lib.hid (H1.out.later h2)
    clear h2 CG BW
    have d0 := (H2.out.cellV 0 rfl 0 rfl).1
    have d1 := (H2.out.cellV 0 rfl 1 rfl).1
    have d2 := (H2.out.cellV 0 rfl 2 rfl).1
    go_wp2_with (first
      | (refine wpList_box2 boxy_ch rfl rfl rfl (.tmp 7) (.tmp 15) rfl rfl F (fun _ => rfl) (fun _ => rfl) FL.out FO.out H2.out ?_; intro b7 w3 h; have H3 := Lib.hid h; clear h)
      | (refine wpList_val rfl (Rec.load_key kc KL.out rfl _ (b := bk) (k := 0) (H3.out.boxRange 2 rfl) rfl) ?_; have d3 := (H3.out.cellV 1 rfl 0 rfl).1; have d4 := (H3.out.cellV 1 rfl 1 rfl).1; have d5 := (H3.out.cellV 1 rfl 2 rfl).1)
      | (refine Own.wpList_built rfl 51 #[(0, .tmp 19), (1, .tmp 20), (2, .const (.int .i64 1))] rfl N.toArray ?_ ?_; · (simp only [List.map_toArray, List.map_cons, List.map_nil, List.toList_toArray]; exact BC.out)))
    refine (CP.out _ (H3.out.perm (rot3 _ _ _ _ _))).mono ?_
    rintro e w4 ⟨rfl, h4⟩
    have H4 := Lib.hid h4
    clear h4 CP
    go_wp2
    go_ret
    exact ⟨rfl, tail3 H4.out⟩
  · rw [his] at CG
    rw [if_pos rfl, if_pos rfl]
    clear his
    go_enter Try.func25, Try.ntmps25
    go_wp2_with (refine wpList_val rfl (Rec.load_key kc KL.out rfl _ (b := bk) (k := 0) (H1.out.boxRange 1 rfl) rfl) ?_)
    refine (CG.out _ BW.out).mono ?_
    rintro e w2 ⟨rfl, h2⟩
    have H2 := Lib.hid (H1.out.later h2)
    clear h2 CG BW
    go_wp2_with (refine wpList_box2 boxy_ch rfl rfl rfl (.tmp 7) (.tmp 15) rfl rfl F (fun _ => rfl) (fun _ => rfl) FL.out FO.out H2.out ?_; intro b7 w3 h; have H3 := Lib.hid h; clear h)
    go_ret
    exact ⟨rfl, H3.out.drop 3⟩
set_option maxRecDepth 10000 in
set_option maxHeartbeats 3200000 in
theorem ref_any (H : Own.St B w0 w (AS p l :: Ps)) (ok : Ok l) (hn : l.length ≤ 1000000) {k : Ky} (hk : FitK k) (hr : isAt l k = true → (getS l k).refs < 9223372036854775807) : Calls Try.prog 26 #[ptr p, kV k] w fun e w' => e = .returned (errS (refS l k).2) ∧ Own.St B w0 w' (AS p (refS l k).1 :: Ps) := by
  obtain ⟨kc, hkc⟩ : ∃ c, c = kC k := ⟨_, rfl⟩
  obtain ⟨F, hF⟩ : ∃ c, c = chC (getS l k) := ⟨_, rfl⟩
  have FL : Hid (F.length = 37) := by show _ = _; rw [hF]; exact chC_len (getS_fit ok k).key
  have FO : Hid (∀ u ∈ F, u.oneCell' = true) := by show ∀ u ∈ F, _; rw [hF]; exact chC_one _
  have KL : Hid (kc.length = 33) := by show _ = _; rw [hkc]; exact kC_len hk
  have CG : Hid (∀ wx, Below w.heap.size w wx → Calls Try.prog 18 #[ptr p, .agg kc.toArray] wx fun e w' => e = .returned (.tuple #[.agg F.toArray, .bool (isAt l k)]) ∧ Below wx.heap.size wx w') := by
    rw [hkc, hF]
    exact fun wx hwx => get_any (H.later hwx) ok hk
  have HF := Lib.hid hF
  have HK := Lib.hid hkc
  have OK := Lib.hid ok
  have FK := Lib.hid hk
  have hb1 := H.boxV 35 kc
  obtain ⟨bk, hbk⟩ : ∃ b, b = w.heap.size := ⟨_, rfl⟩
  obtain ⟨W1, hW1⟩ : ∃ W, W = w.alloc (.cells kc.toArray 35) := ⟨_, rfl⟩
  rw [← hW1, ← hbk] at hb1
  have H1 := Lib.hid hb1
  have E1 := hW1.symm
  have EK := hbk.symm
  have BW : Hid (Below w.heap.size w W1) := by rw [hW1]; exact ((Own.St.start w).alloc _).below
  show Calls Try.prog _ #[_, .agg (kC k).toArray] w _
  rw [← hkc]
  clear hkc hF hb1 hbk hW1
  cases his : isAt l k
  · rw [his] at CG
    rw [refS_no his]
    clear his ok hk H hr
    go_enter Try.func26, Try.ntmps26
    go_wp2_with (refine wpList_val rfl (Rec.load_key kc KL.out rfl _ (b := bk) (k := 0) (H1.out.boxRange 0 rfl) rfl) ?_)
    refine (CG.out _ BW.out).mono ?_
    rintro e w2 ⟨rfl, h2⟩
    have H2 := Lib.hid (H1.out.later h2)
    clear h2 CG BW
    go_wp2_with (refine wpList_box2 boxy_ch rfl rfl rfl (.tmp 5) (.tmp 11) rfl rfl F (fun _ => rfl) (fun _ => rfl) FL.out FO.out H2.out ?_; intro b7 w3 h; have H3 := Lib.hid h; clear h)
    go_ret
    exact ⟨rfl, H3.out.drop 2⟩
  · have hr1 := hr his
    have hf := getS_fit ok k
    have hr2 : -9223372036854775808 ≤ (getS l k).refs := hf.refs.1
    obtain ⟨r, hrr⟩ : ∃ r, r = (getS l k).refs := ⟨_, rfl⟩
    obtain ⟨G, hG⟩ : ∃ G, G = F.set 36 (iS (r + 1)) := ⟨_, rfl⟩
    have eG : G = chC (wR (getS l k) ((getS l k).refs + 1)) := by rw [hG, HF.out, hrr]; exact chC_set_refs hf.key _
    have hfit : Fit (wR (getS l k) ((getS l k).refs + 1)) := ⟨hf.key, hf.place, ⟨by show -9223372036854775808 ≤ (getS l k).refs + 1; omega, by show (getS l k).refs + 1 ≤ 9223372036854775807; omega⟩⟩
    have CP : Hid (∀ {Q : List Asn} (wx : World), Own.St B w0 wx (AS p l :: Q) → Calls Try.prog 35 #[ptr p, .agg G.toArray] wx fun e w' => e = .returned (.tuple #[]) ∧ Own.St B w0 w' (AS p (putS l (wR (getS l k) ((getS l k).refs + 1))) :: Q)) := by
      rw [eG]
      exact fun {Q} wx h => put_any h ok hn hfit
    have GL : Hid (G.length = 37) := by show _ = _; rw [hG, List.length_set]; exact FL.out
    have F36 : Hid (F[36]? = some (iS r)) := by show _ = _; rw [HF.out, hrr]; exact chC_rest hf.key 3
    have HG := Lib.hid hG
    rw [his] at CG
    rw [refS_yes his]
    rw [← hrr] at hr1 hr2
    have eW : IntKind.i64.wrap (r + 1) = r + 1 := by
      simp [IntKind.wrap, IntKind.bits, IntKind.signed]; omega
    clear his ok hk H hr hf hrr hG eG hfit
    go_enter Try.func26, Try.ntmps26
    go_wp2_with (refine wpList_val rfl (Rec.load_key kc KL.out rfl _ (b := bk) (k := 0) (H1.out.boxRange 0 rfl) rfl) ?_)
    refine (CG.out _ BW.out).mono ?_
    rintro e w2 ⟨rfl, h2⟩
    have H2 := Lib.hid (H1.out.later h2)
    clear h2 CG BW
    go_wp2_with (first
      | (refine wpList_box2 boxy_ch rfl rfl rfl (.tmp 5) (.tmp 11) rfl rfl F (fun _ => rfl) (fun _ => rfl) FL.out FO.out H2.out ?_; intro b7 w3 h; have q0 := (h.cellV 0 rfl 36 (v := .int .i64 r) F36.out).1; have q1 := (h.cellV 0 rfl 36 (v := .int .i64 r) F36.out).2; have SV := h.storeV 0 rfl 36 (.int .i64 (r + 1)); simp only [List.set_cons_zero] at SV; rw [← HG.out] at SV; have H4 := Lib.hid SV; clear h SV)
      | (refine wpList_val rfl (load_ch G GL.out rfl _ (b := b7) (k := 0) (H4.out.boxRange 0 rfl) rfl) ?_))
    refine (CP.out _ (H4.out.perm (rot2 _ _ _ _))).mono ?_
    rintro e w5 ⟨rfl, h5⟩
    have H5 := Lib.hid h5
    clear h5 CP
    go_wp2
    go_ret
    exact ⟨rfl, tail2 H5.out⟩
set_option maxRecDepth 10000 in
set_option maxHeartbeats 3200000 in
theorem move_any (H : Own.St B w0 w (AS p l :: Ps)) (ok : Ok l) (hn : l.length ≤ 1000000) {k : Ky} (hk : FitK k) {q : Pl} (hq : FitP q) : Calls Try.prog 24 #[ptr p, kV k, pV q] w fun e w' => e = .returned (errS (moveS l k q).2) ∧ Own.St B w0 w' (AS p (moveS l k q).1 :: Ps) := by
  obtain ⟨kc, hkc⟩ : ∃ c, c = kC k := ⟨_, rfl⟩
  obtain ⟨F, hF⟩ : ∃ c, c = chC (getS l k) := ⟨_, rfl⟩
  have FL : Hid (F.length = 37) := by show _ = _; rw [hF]; exact chC_len (getS_fit ok k).key
  have FO : Hid (∀ u ∈ F, u.oneCell' = true) := by show ∀ u ∈ F, _; rw [hF]; exact chC_one _
  have KL : Hid (kc.length = 33) := by show _ = _; rw [hkc]; exact kC_len hk
  have CG : Hid (∀ wx, Below w.heap.size w wx → Calls Try.prog 18 #[ptr p, .agg kc.toArray] wx fun e w' => e = .returned (.tuple #[.agg F.toArray, .bool (isAt l k)]) ∧ Below wx.heap.size wx w') := by
    rw [hkc, hF]
    exact fun wx hwx => get_any (H.later hwx) ok hk
  have HF := Lib.hid hF
  have HK := Lib.hid hkc
  have OK := Lib.hid ok
  have FK := Lib.hid hk
  obtain ⟨qs, qg, qn⟩ := q
  have HQ := Lib.hid hq
  have hb0 := H.boxV 35 kc
  obtain ⟨bk, hbk⟩ : ∃ b, b = w.heap.size := ⟨_, rfl⟩
  obtain ⟨W0, hW0⟩ : ∃ W, W = w.alloc (.cells kc.toArray 35) := ⟨_, rfl⟩
  rw [← hW0, ← hbk] at hb0
  have hb1 := hb0.boxV 37 [iS qs, iS qg, iS qn]
  obtain ⟨bq, hbq⟩ : ∃ b, b = W0.heap.size := ⟨_, rfl⟩
  obtain ⟨W1, hW1⟩ : ∃ W, W = W0.alloc (.cells #[iS qs, iS qg, iS qn] 37) := ⟨_, rfl⟩
  have hW1' : W0.alloc (.cells [iS qs, iS qg, iS qn].toArray 37) = W1 := hW1.symm
  rw [hW1', ← hbq] at hb1
  have H1 := Lib.hid hb1
  have E0 := hW0.symm
  have E1 := hW1.symm
  have EK := hbk.symm
  have EB := hbq.symm
  have BW : Hid (Below w.heap.size w W1) := by rw [hW1, hW0]; exact (((Own.St.start w).alloc _).alloc _).below
  show Calls Try.prog _ #[_, .agg (kC k).toArray, .agg #[iS qs, iS qg, iS qn]] w _
  rw [← hkc]
  clear hkc hF hb1 hbk hW1 hW1' hb0 hW0 hbq
  cases his : isAt l k
  · rw [his] at CG
    rw [moveS_no his]
    clear his ok hk H hq
    go_enter Try.func24, Try.ntmps24
    go_wp2_with (refine wpList_val rfl (Rec.load_key kc KL.out rfl _ (b := bk) (k := 0) (H1.out.boxRange 1 rfl) rfl) ?_)
    refine (CG.out _ BW.out).mono ?_
    rintro e w2 ⟨rfl, h2⟩
    have H2 := Lib.hid (H1.out.later h2)
    clear h2 CG BW
    go_wp2_with (refine wpList_box2 boxy_ch rfl rfl rfl (.tmp 7) (.tmp 13) rfl rfl F (fun _ => rfl) (fun _ => rfl) FL.out FO.out H2.out ?_; intro b7 w3 h; have H3 := Lib.hid h; clear h)
    go_ret
    exact ⟨rfl, H3.out.drop 3⟩
  · have hf := getS_fit ok k
    obtain ⟨G, hG⟩ : ∃ G, G = ((F.set 33 (.int .i64 qs)).set 34 (.int .i64 qg)).set 35 (.int .i64 qn) := ⟨_, rfl⟩
    have eG : G = chC (wP (getS l k) ⟨qs, qg, qn⟩) := by rw [hG, HF.out]; exact chC_set3 hf.key qs qg qn
    have hfit : Fit (wP (getS l k) ⟨qs, qg, qn⟩) := ⟨hf.key, hq, hf.refs⟩
    have CP : Hid (∀ {Q : List Asn} (wx : World), Own.St B w0 wx (AS p l :: Q) → Calls Try.prog 35 #[ptr p, .agg G.toArray] wx fun e w' => e = .returned (.tuple #[]) ∧ Own.St B w0 w' (AS p (putS l (wP (getS l k) ⟨qs, qg, qn⟩)) :: Q)) := by
      rw [eG]
      exact fun {Q} wx h => put_any h ok hn hfit
    have GL : Hid (G.length = 37) := by show _ = _; rw [hG, List.length_set, List.length_set, List.length_set]; exact FL.out
    obtain ⟨os, hos⟩ : ∃ x, x = (getS l k).place.seg := ⟨_, rfl⟩
    obtain ⟨og, hog⟩ : ∃ x, x = (getS l k).place.page := ⟨_, rfl⟩
    obtain ⟨on, hon⟩ : ∃ x, x = (getS l k).place.pages := ⟨_, rfl⟩
    have F33 : Hid (F[33]? = some (iS os)) := by show _ = _; rw [HF.out, hos]; exact chC_rest hf.key 0
    have F34 : Hid (F[34]? = some (iS og)) := by show _ = _; rw [HF.out, hog]; exact chC_rest hf.key 1
    have F35 : Hid (F[35]? = some (iS on)) := by show _ = _; rw [HF.out, hon]; exact chC_rest hf.key 2
    have HG := Lib.hid hG
    rw [his] at CG
    rw [moveS_yes his]
    clear his ok hk H hf hG eG hfit hq hos hog hon
    go_enter Try.func24, Try.ntmps24
    go_wp2_with (refine wpList_val rfl (Rec.load_key kc KL.out rfl _ (b := bk) (k := 0) (H1.out.boxRange 1 rfl) rfl) ?_)
    refine (CG.out _ BW.out).mono ?_
    rintro e w2 ⟨rfl, h2⟩
    have H2 := Lib.hid (H1.out.later h2)
    clear h2 CG BW
    go_wp2_with (first
      | (refine wpList_box2 boxy_ch rfl rfl rfl (.tmp 7) (.tmp 13) rfl rfl F (fun _ => rfl) (fun _ => rfl) FL.out FO.out H2.out ?_; intro b7 w3 h; have q0 := (h.cellV 0 rfl 33 (v := .int .i64 os) F33.out).1; have q1 := (h.cellV 0 rfl 33 (v := .int .i64 os) F33.out).2; have q2 := (h.cellV 0 rfl 34 (v := .int .i64 og) F34.out).1; have q3 := (h.cellV 0 rfl 34 (v := .int .i64 og) F34.out).2; have q4 := (h.cellV 0 rfl 35 (v := .int .i64 on) F35.out).1; have q5 := (h.cellV 0 rfl 35 (v := .int .i64 on) F35.out).2; have d0 := (h.cellV 1 rfl 0 rfl).1; have d1 := (h.cellV 1 rfl 1 rfl).1; have d2 := (h.cellV 1 rfl 2 rfl).1; have SV := ((h.storeV 0 rfl 33 (.int .i64 qs)).storeV 0 rfl 34 (.int .i64 qg)).storeV 0 rfl 35 (.int .i64 qn); simp only [List.set_cons_zero] at SV; rw [← HG.out] at SV; have H4 := Lib.hid SV; clear h SV)
      | (refine wpList_val rfl (load_ch G GL.out rfl _ (b := b7) (k := 0) (H4.out.boxRange 0 rfl) rfl) ?_))
    refine (CP.out _ (H4.out.perm (rot3 _ _ _ _ _))).mono ?_
    rintro e w5 ⟨rfl, h5⟩
    have H5 := Lib.hid h5
    clear h5 CP
    go_wp2
    go_ret
    exact ⟨rfl, tail3 H5.out⟩
set_option maxRecDepth 10000 in
set_option maxHeartbeats 3200000 in
theorem unref_any (H : Own.St B w0 w (AS p l :: Ps)) (ok : Ok l) (hn : l.length ≤ 1000000) {k : Ky} (hk : FitK k) (hr : isAt l k = true → 1 ≤ (getS l k).refs) : Calls Try.prog 27 #[ptr p, kV k] w fun e w' => e = .returned (.tuple #[.bool (unrefS l k).2.1, errS (unrefS l k).2.2]) ∧ Own.St B w0 w' (AS p (unrefS l k).1 :: Ps) := by
  obtain ⟨kc, hkc⟩ : ∃ c, c = kC k := ⟨_, rfl⟩
  obtain ⟨F, hF⟩ : ∃ c, c = chC (getS l k) := ⟨_, rfl⟩
  have FL : Hid (F.length = 37) := by show _ = _; rw [hF]; exact chC_len (getS_fit ok k).key
  have FO : Hid (∀ u ∈ F, u.oneCell' = true) := by show ∀ u ∈ F, _; rw [hF]; exact chC_one _
  have KL : Hid (kc.length = 33) := by show _ = _; rw [hkc]; exact kC_len hk
  have CG : Hid (∀ wx, Below w.heap.size w wx → Calls Try.prog 18 #[ptr p, .agg kc.toArray] wx fun e w' => e = .returned (.tuple #[.agg F.toArray, .bool (isAt l k)]) ∧ Below wx.heap.size wx w') := by
    rw [hkc, hF]
    exact fun wx hwx => get_any (H.later hwx) ok hk
  have HF := Lib.hid hF
  have HK := Lib.hid hkc
  have OK := Lib.hid ok
  have FK := Lib.hid hk
  have hb1 := H.boxV 35 kc
  obtain ⟨bk, hbk⟩ : ∃ b, b = w.heap.size := ⟨_, rfl⟩
  obtain ⟨W1, hW1⟩ : ∃ W, W = w.alloc (.cells kc.toArray 35) := ⟨_, rfl⟩
  rw [← hW1, ← hbk] at hb1
  have H1 := Lib.hid hb1
  have E1 := hW1.symm
  have EK := hbk.symm
  have BW : Hid (Below w.heap.size w W1) := by rw [hW1]; exact ((Own.St.start w).alloc _).below
  show Calls Try.prog _ #[_, .agg (kC k).toArray] w _
  rw [← hkc]
  clear hF hb1 hbk hW1
  cases his : isAt l k
  · rw [his] at CG
    rw [unrefS_no his]
    clear his ok hk H hr hkc
    go_enter Try.func27, Try.ntmps27
    go_wp2_with (refine wpList_val rfl (Rec.load_key kc KL.out rfl _ (b := bk) (k := 0) (H1.out.boxRange 0 rfl) rfl) ?_)
    refine (CG.out _ BW.out).mono ?_
    rintro e w2 ⟨rfl, h2⟩
    have H2 := Lib.hid (H1.out.later h2)
    clear h2 CG BW
    go_wp2_with (refine wpList_box2 boxy_ch rfl rfl rfl (.tmp 6) (.tmp 12) rfl rfl F (fun _ => rfl) (fun _ => rfl) FL.out FO.out H2.out ?_; intro b7 w3 h; have H3 := Lib.hid h; clear h)
    go_ret2
    exact ⟨rfl, H3.out.drop 2⟩
  · have hr1 := hr his
    have hf := getS_fit ok k
    have hr2 : (getS l k).refs ≤ 9223372036854775807 := hf.refs.2
    obtain ⟨r, hrr⟩ : ∃ r, r = (getS l k).refs := ⟨_, rfl⟩
    obtain ⟨G, hG⟩ : ∃ G, G = F.set 36 (iS (r - 1)) := ⟨_, rfl⟩
    have eG : G = chC (wR (getS l k) ((getS l k).refs - 1)) := by rw [hG, HF.out, hrr]; exact chC_set_refs hf.key _
    have hfit : Fit (wR (getS l k) ((getS l k).refs - 1)) := ⟨hf.key, hf.place, ⟨by show -9223372036854775808 ≤ (getS l k).refs - 1; omega, by show (getS l k).refs - 1 ≤ 9223372036854775807; omega⟩⟩
    have CP : Hid (∀ {Q : List Asn} (wx : World), Own.St B w0 wx (AS p l :: Q) → Calls Try.prog 35 #[ptr p, .agg G.toArray] wx fun e w' => e = .returned (.tuple #[]) ∧ Own.St B w0 w' (AS p (putS l (wR (getS l k) ((getS l k).refs - 1))) :: Q)) := by
      rw [eG]
      exact fun {Q} wx h => put_any h ok hn hfit
    have GL : Hid (G.length = 37) := by show _ = _; rw [hG, List.length_set]; exact FL.out
    have F36 : Hid (F[36]? = some (iS r)) := by show _ = _; rw [HF.out, hrr]; exact chC_rest hf.key 3
    have HG := Lib.hid hG
    have DEL : Hid (∀ {Q : List Asn} (wx : World), Own.St B w0 wx (AS p l :: Q) → ∃ b, wx.cell? ⟨p, 0, none⟩ = some (.map (some b)) ∧ ∀ wy, Below wx.heap.size wx wy → wy.cell? ⟨p, 0, none⟩ = some (.map (some b)) ∧ ∀ ty, ∃ w', (Builtin.delete_ #[69, 35] ty #[.map (some b), .agg kc.toArray]).run Try.prog wy = .ok (.tuple #[]) w' ∧ Own.St B w0 w' (AS p (l.eraseIdx (posK k l)) :: Q)) := by
      intro Q wx h
      obtain ⟨m, hm, h2⟩ := as_open h
      cases m with
      | none => rw [hm rfl] at his; cases his
      | some b =>
        refine ⟨b, (h2.cellV 0 rfl 0 rfl).1, fun wy hwy => ⟨((h2.later hwy).cellV 0 rfl 0 rfl).1, fun ty => ?_⟩⟩
        obtain ⟨w', hr, h3⟩ := mapDelC (h2.later hwy) 1 rfl ok hk his ty
        rw [hkc]
        exact ⟨w', hr, as_close (m := some b) (fun h => by cases h) h3⟩
    rw [his] at CG
    rw [← hrr] at hr1 hr2
    have eW : IntKind.i64.wrap (r - 1) = r - 1 := by
      simp [IntKind.wrap, IntKind.bits, IntKind.signed]; omega
    by_cases hz : r - 1 = 0
    · have hz0 : ¬ (getS l k).refs - 1 > 0 := by rw [← hrr]; omega
      rw [unrefS_last his hz0]
      have hr3 : r = 1 := by omega
      subst hr3
      clear hz0 his ok hk H hr hf hrr hG eG hfit hkc hz eW hr1 hr2
      go_enter Try.func27, Try.ntmps27
      go_wp2_with (refine wpList_val rfl (Rec.load_key kc KL.out rfl _ (b := bk) (k := 0) (H1.out.boxRange 0 rfl) rfl) ?_)
      refine (CG.out _ BW.out).mono ?_
      rintro e w2 ⟨rfl, h2⟩
      have H2 := Lib.hid (H1.out.later h2)
      clear h2 CG BW
      go_wp2_with (refine wpList_box2 boxy_ch rfl rfl rfl (.tmp 6) (.tmp 12) rfl rfl F (fun _ => rfl) (fun _ => rfl) FL.out FO.out H2.out ?_; intro b7 w3 h; have q0 := (h.cellV 0 rfl 36 (v := .int .i64 1) F36.out).1; have q1 := (h.cellV 0 rfl 36 (v := .int .i64 1) F36.out).2; have SV := h.storeV 0 rfl 36 (.int .i64 0); simp only [List.set_cons_zero] at SV; have H4 := Lib.hid SV; clear h SV)
      obtain ⟨W4, hW4⟩ : ∃ W, W = w3.setCell ⟨b7, 36, none⟩ (.int .i64 0) := ⟨_, rfl⟩
      rw [← hW4] at H4 ⊢
      clear hW4 q0 q1
      obtain ⟨b, c0, D⟩ := DEL.out W4 (H4.out.perm (rot2 _ _ _ _))
      have HD := Lib.hid D
      clear D c0 DEL
      refine wp_laxW_list 5 (by kernel_rfl) (by kernel_rfl) (by kernel_rfl) (by kernel_rfl) (by kernel_rfl) ?_
      simp only [List.take_succ_cons, List.take_zero, List.drop_succ_cons, List.drop_zero]
      refine wpL_move (ptr p) rfl (by kernel_rfl) (by kernel_rfl) (by kernel_rfl) (by kernel_rfl) ?_
      refine wpL_run1 (x := .tmp 23) (ptr p) (ptr p) (by kernel_rfl) (by kernel_rfl) (by kernel_rfl) (by kernel_rfl) (by kernel_rfl) (fun wx ρ hwx h0 hc => by simp [go_sem, h0]) ?_
      refine wpL_run1 (x := .tmp 24) (ptr p) (ptr p) (by kernel_rfl) (by kernel_rfl) (by kernel_rfl) (by kernel_rfl) (by kernel_rfl) (fun wx ρ hwx h0 hc => fld_m rfl ρ wx h0) ?_
      refine wpL_run1 (x := .tmp 25) (ptr p) (.map (some b)) (by kernel_rfl) (by kernel_rfl) (by kernel_rfl) (by kernel_rfl) (by kernel_rfl) (fun wx ρ hwx h0 hc => ld_m rfl ρ (HD.out wx hwx).1 h0) ?_
      refine wpL_run1 (x := .tmp 3) (ptr bk) (.agg kc.toArray) (by kernel_rfl) (by kernel_rfl) (by kernel_rfl) (by kernel_rfl) (by kernel_rfl) (fun wx ρ hwx h0 hc => Rec.load_key kc KL.out rfl ρ ((H4.out.later hwx).boxRange 1 rfl) h0) ?_
      refine wpL_end (by kernel_rfl) (fun w4 hw4 => ?_)
      simp only [FinL, setL, List.set_cons_zero, List.set_cons_succ]
      intro _
      obtain ⟨w5, e5, h5⟩ := (HD.out w4 hw4).2 0
      have E5 := Lib.hid e5
      have H5 := Lib.hid h5
      clear h5 hw4 e5 HD H4
      go_wp2_with (refine wpList_del rfl (.tmp 26) (.tmp 27) rfl rfl rfl E5.out ?_)
      go_ret2
      exact ⟨rfl, tail2 H5.out⟩
    · have hz0 : (getS l k).refs - 1 > 0 := by rw [← hrr]; omega
      rw [unrefS_more his hz0]
      have hzb : ((r - 1) == 0) = false := by simp; omega
      clear hz0 his ok hk H hr hf hrr hG eG hfit hkc DEL
      go_enter Try.func27, Try.ntmps27
      go_wp2_with (refine wpList_val rfl (Rec.load_key kc KL.out rfl _ (b := bk) (k := 0) (H1.out.boxRange 0 rfl) rfl) ?_)
      refine (CG.out _ BW.out).mono ?_
      rintro e w2 ⟨rfl, h2⟩
      have H2 := Lib.hid (H1.out.later h2)
      clear h2 CG BW
      go_wp2_with (first
        | (refine wpList_box2 boxy_ch rfl rfl rfl (.tmp 6) (.tmp 12) rfl rfl F (fun _ => rfl) (fun _ => rfl) FL.out FO.out H2.out ?_; intro b7 w3 h; have q0 := (h.cellV 0 rfl 36 (v := .int .i64 r) F36.out).1; have q1 := (h.cellV 0 rfl 36 (v := .int .i64 r) F36.out).2; have SV := h.storeV 0 rfl 36 (.int .i64 (r - 1)); simp only [List.set_cons_zero] at SV; rw [← HG.out] at SV; have H4 := Lib.hid SV; clear h SV)
        | (refine wpList_val rfl (load_ch G GL.out rfl _ (b := b7) (k := 0) (H4.out.boxRange 0 rfl) rfl) ?_))
      refine (CP.out _ (H4.out.perm (rot2 _ _ _ _))).mono ?_
      rintro e w5 ⟨rfl, h5⟩
      have H5 := Lib.hid h5
      clear h5 CP
      go_wp2
      go_ret2
      exact ⟨rfl, tail2 H5.out⟩
end
end Sto
end Go.Proofs.Ytcfdjoohbicomaa

end
section
namespace Go.Own.Grn
open Go.RowKit Go.Own Go.Sort
structure Grw (w w' : World) : Prop where
  below : Below w.heap.size w w'
  drawn : w.drawn ≤ w'.drawn
theorem Grw.refl (w : World) : Grw w w := ⟨Below.refl _ _, Nat.le_refl _⟩
theorem Grw.trans {a b c : World} (h : Grw a b) (g : Grw b c) : Grw a c := ⟨h.below.trans (g.below.mono h.below.size), Nat.le_trans h.drawn g.drawn⟩
theorem Grw.draw (w : World) : Grw w { w with drawn := w.drawn + 1 } := ⟨⟨rfl, rfl, rfl, Nat.le_refl _, fun _ _ => rfl⟩, Nat.le_succ _⟩
theorem Grw.is {w w' : World} (h : Grw w w') : ∃ q os, w' = grow (w.drewN q) os := by
  refine ⟨w'.drawn - w.drawn, w'.heap.extract w.heap.size w'.heap.size, ?_⟩
  have hd := h.drawn
  have hh : w'.heap = w.heap ++ w'.heap.extract w.heap.size w'.heap.size := by
    have hs := h.below.size
    apply Array.ext_getElem?
    intro i
    by_cases hi : i < w.heap.size
    · rw [Array.getElem?_append_left hi]; exact h.below.block i hi
    · rw [Array.getElem?_append_right (by omega), Array.getElem?_extract]
      by_cases h2 : i < w'.heap.size
      · rw [if_pos (by omega)]; congr 1; omega
      · rw [if_neg (by omega), Array.getElem?_eq_none (by omega)]
  obtain ⟨h1, h2, h3, h4, h5⟩ := w'
  simp only [grow, World.drewN, World.mk.injEq]
  refine ⟨hh, h.below.tape, ?_, h.below.os, h.below.output⟩
  simp only at hd ⊢
  omega
section
variable {P : Program} {ops : Array Oper} {C : World → Prop}

/-- an operation gives what R says, wherever it is carried out -/
def Gives (P : Program) (ops : Array Oper) (C : World → Prop) (o : Oper) (I : Lx) (a : Act) (R : Ty) : Prop :=
  ∀ a1 w, C w → (∀ t ∈ o.looksAt ops, slotIs I a t (a1.tmps.getD t undef) w) → ∀ (K : Act → World → Prop) (Q : Exit → Act → World → Prop),
    (∀ v w', R.holds v w' → Grw w w' → K (a1.put o.dst v) w') → o.wp P a1 w K Q

inductive StepT (P : Program) (ops : Array Oper) (C : World → Prop) (o : Oper) : Lx → Act → Lx → Act → Prop
  | skip {I a} (hg : guardKnown ops o I = true) (hw : Region.wanted o (yielded ops a.tmps) = false) : StepT P ops C o I a I (a.put o.dst undef)
  | val {I a} (v : Value) (hg : guardKnown ops o I = true) (hw : Region.wanted o (yielded ops a.tmps) = true) (h : Gives P ops C o I a (Ty.is v)) : StepT P ops C o I a I (a.put o.dst v)
  | ty {I a} (d : Tmp) (R : Ty) (hd : o.dst = some d) (hg : guardKnown ops o I = true) (hw : Region.wanted o (yielded ops a.tmps) = true) (h : Gives P ops C o I a R) : StepT P ops C o I a ((d, R) :: I) a

/-- THE WALK, in the order of the text -/
def wpT (P : Program) (ops : Array Oper) (C : World → Prop) (Q : Act → World → Prop) : List Oper → Lx → Act → Prop
  | [], I, a => ∀ a1 w1, Rep C I a a1 w1 → Q a1 w1
  | o :: rest, I, a => ∃ I' a', StepT P ops C o I a I' a' ∧ wpT P ops C Q rest I' a'

theorem wpT_path {Q : Act → World → Prop} : ∀ (l : List Oper) (I : Lx) (a : Act), wpT P ops C Q l I a →
    ∃ S : Nat → Lx × Act, S 0 = (I, a) ∧ (∀ k o, l[k]? = some o → StepT P ops C o (S k).1 (S k).2 (S (k + 1)).1 (S (k + 1)).2) ∧ ∀ a1 w1, Rep C (S l.length).1 (S l.length).2 a1 w1 → Q a1 w1
  | [], I, a, h => ⟨fun _ => (I, a), rfl, fun k o hk => by simp at hk, h⟩
  | o :: rest, I, a, ⟨I', a', h1, h2⟩ => by
    obtain ⟨S, g0, g1, g2⟩ := wpT_path rest I' a' h2
    refine ⟨fun k => match k with | 0 => (I, a) | k + 1 => S k, rfl, fun k o' hk => ?_, fun a1 w1 hr => g2 a1 w1 (by simpa using hr)⟩
    cases k with
    | zero =>
      obtain rfl : o = o' := by simpa using hk
      show StepT P ops C o I a (S 0).1 (S 0).2
      rw [g0]; exact h1
    | succ k => exact g1 k o' (by simpa using hk)

theorem StepT.size {o : Oper} {I I' : Lx} {a a' : Act} (h : StepT P ops C o I a I' a') : a'.tmps.size = a.tmps.size ∧ a'.defers = a.defers := by
  cases h
  · exact ⟨put_size _ _ _, put_defers _ _ _⟩
  · exact ⟨put_size _ _ _, put_defers _ _ _⟩
  · exact ⟨rfl, rfl⟩

/-- a slot that the operation does not write stays -/
theorem StepT.other {o : Oper} {I I' : Lx} {a a' : Act} (h : StepT P ops C o I a I' a') {t : Tmp} (hin : ∀ d, o.dst = some d → d < a.tmps.size) (ht : o.dst ≠ some t) (v : Value) (w : World) : slotIs I' a' t v w ↔ slotIs I a t v w := by
  have hput : ∀ u, (a.put o.dst u).tmps.getD t undef = a.tmps.getD t undef := by
    intro u
    cases hd : o.dst with
    | none => rfl
    | some d => rw [put_getD a d t u (hin d hd), if_neg (fun e => ht (by rw [hd, e]))]
  cases h
  · unfold slotIs; rw [hput]
  · unfold slotIs; rw [hput]
  · rename_i d R hd hg hw h
    unfold slotIs
    rw [List.lookup_cons]
    have : (t == d) = false := by simp; intro e; exact ht (by rw [hd, e])
    simp only [this]

theorem path_sizes {a0 : Act} {S : Nat → Lx × Act} (hS0 : S 0 = ([], a0)) {n : Nat} (hn : n ≤ ops.size) (hst : ∀ (k : Nat) (o : Oper), k < n → ops[k]? = some o → StepT P ops C o (S k).1 (S k).2 (S (k + 1)).1 (S (k + 1)).2) :
    ∀ k, k ≤ n → (S k).2.tmps.size = a0.tmps.size ∧ (S k).2.defers = a0.defers
  | 0, _ => by rw [hS0]; exact ⟨rfl, rfl⟩
  | k + 1, hk => by
    have h := path_sizes hS0 hn hst k (by omega)
    have g := (hst k ops[k] (by omega) (Array.getElem?_eq_getElem (by omega))).size
    exact ⟨g.1.trans h.1, g.2.trans h.2⟩

theorem path_other {a0 : Act} {S : Nat → Lx × Act} (hS0 : S 0 = ([], a0)) {n : Nat} (hn : n ≤ ops.size) (hst : ∀ (k : Nat) (o : Oper), k < n → ops[k]? = some o → StepT P ops C o (S k).1 (S k).2 (S (k + 1)).1 (S (k + 1)).2)
    (hin : ∀ (k : Nat) (o : Oper) (d : Tmp), ops[k]? = some o → o.dst = some d → d < a0.tmps.size) {t : Tmp} (v : Value) (w : World) (m : Nat) :
    ∀ q, m + q ≤ n → (∀ j oj, m ≤ j → j < m + q → ops[j]? = some oj → oj.dst ≠ some t) → (slotIs (S (m + q)).1 (S (m + q)).2 t v w ↔ slotIs (S m).1 (S m).2 t v w)
  | 0, _, _ => Iff.rfl
  | q + 1, hq, hno => by
    have ih := path_other hS0 hn hst hin (t := t) v w m q (by omega) (fun j oj h1 h2 => hno j oj h1 (by omega))
    have hk : ops[m + q]? = some ops[m + q] := Array.getElem?_eq_getElem (by omega)
    have hs := path_sizes hS0 hn hst (m + q) (by omega)
    exact ((hst (m + q) _ (by omega) hk).other (fun d hd => by rw [hs.1]; exact hin _ _ d hk hd) (hno (m + q) _ (by omega) (by omega) hk) v w).trans ih

theorem path_keys {a0 : Act} {S : Nat → Lx × Act} (hS0 : S 0 = ([], a0)) {n : Nat} (hn : n ≤ ops.size) (hst : ∀ (k : Nat) (o : Oper), k < n → ops[k]? = some o → StepT P ops C o (S k).1 (S k).2 (S (k + 1)).1 (S (k + 1)).2) {t : Tmp} :
    ∀ k, k ≤ n → (∀ (j : Nat) (oj : Oper), j < k → ops[j]? = some oj → oj.dst ≠ some t) → (S k).1.lookup t = none
  | 0, _, _ => by rw [hS0]; rfl
  | k + 1, hk, hno => by
    have ih := path_keys hS0 hn hst k (by omega) (fun j oj h1 h2 => hno j oj (by omega) h2)
    have hs := hst k ops[k] (by omega) (Array.getElem?_eq_getElem (by omega))
    have hd := hno k ops[k] (by omega) (Array.getElem?_eq_getElem (by omega))
    generalize S k = si at *
    generalize S (k + 1) = sj at *
    obtain ⟨Ii, ai⟩ := si
    obtain ⟨Ij, aj⟩ := sj
    cases hs with
    | skip => exact ih
    | val => exact ih
    | ty d R hdd =>
      show List.lookup t ((d, R) :: Ii) = none
      rw [List.lookup_cons]
      have : (t == d) = false := by simp; intro e; exact hd (by rw [hdd, e])
      simp only [this]
      exact ih

/-- WHATEVER ORDER IS DRAWN -/
theorem wpAny_lax {md : Region.Mode} {Q' : Exit → Act → World → Prop} (hC : ∀ w w', C w → Grw w w' → C w') {a0 : Act} {S : Nat → Lx × Act} (hS0 : S 0 = ([], a0))
    {n : Nat} (hn : n ≤ ops.size) (hst : ∀ (k : Nat) (o : Oper), k < n → ops[k]? = some o → StepT P ops C o (S k).1 (S k).2 (S (k + 1)).1 (S (k + 1)).2)
    (hin : ∀ (k : Nat) (o : Oper) (d : Tmp), ops[k]? = some o → o.dst = some d → d < a0.tmps.size)
    (hone : ∀ (j k : Nat) (x y : Oper) (d : Tmp), ops[j]? = some x → ops[k]? = some y → x.dst = some d → y.dst = some d → j = k)
    (hlex : ∀ (i : Nat) (oi : Oper), ops[i]? = some oi → (∀ e ∈ oi.after, Region.binds md e = true → e.on < i) ∧ ∀ j oj, i < j → ops[j]? = some oj → (∃ e ∈ oj.after, Region.binds md e = true ∧ e.on = i) ∨ oi.apart ops oj = true)
    (hwait : ∀ (i : Nat) (oi : Oper), n ≤ i → ops[i]? = some oi → ∀ j, j < n → ∃ e ∈ oi.after, Region.binds md e = true ∧ e.on = j)
    (hfin : ∀ (fuel : Nat) (listed : Array Bool) (a1 : Act) (w1 : World), (∃ s, (List.range ops.size).filter (fun i => !listed.getD i true) = s ∧ s.length = fuel) → listed.size = ops.size → (∀ i, i < n → listed.getD i true = true) → (∀ j, n ≤ j → j < ops.size → listed.getD j true = false) → Rep C (S n).1 (S n).2 a1 w1 → wpAny P md ops Q' fuel listed a1 w1) :
    ∀ (fuel : Nat) (listed : Array Bool) (a1 : Act) (w1 : World), (∃ s, (List.range ops.size).filter (fun i => !listed.getD i true) = s ∧ s.length = fuel) → RunInv md n ops C a0 S listed a1 w1 → wpAny P md ops Q' fuel listed a1 w1 := by
  -- all that is not listed: none is ready only if none is left
  have hready : ∀ listed : Array Bool, listed.size = ops.size → Region.ready md ops listed = [] → ∀ i, i < ops.size → listed.getD i true = true := by
    intro listed hls hr i
    induction i using Nat.strongRecOn with
    | _ i ih =>
      intro hi
      rcases hb : listed.getD i true with _ | _
      · exfalso
        have : i ∈ Region.ready md ops listed := by
          refine mem_ready.2 ⟨hb, ops[i], Array.getElem?_eq_getElem hi, fun e he hbd => ?_⟩
          have h1 := (hlex i _ (Array.getElem?_eq_getElem hi)).1 e he hbd
          have h2 := ih e.on h1 (by omega)
          have h3 : e.on < listed.size := by omega
          simpa [h3] using h2
        rw [hr] at this
        cases this
      · rfl
  have hend : ∀ (fuel : Nat) (listed : Array Bool) (a1 : Act) (w1 : World), (∃ s, (List.range ops.size).filter (fun i => !listed.getD i true) = s ∧ s.length = fuel) → RunInv md n ops C a0 S listed a1 w1 → (∀ i, i < n → listed.getD i true = true) → wpAny P md ops Q' fuel listed a1 w1 := by
    intro fuel listed a1 w1 hcnt hI hall
    have hsz := path_sizes hS0 hn hst n (Nat.le_refl _)
    refine hfin fuel listed a1 w1 hcnt hI.lsize hall hI.tail ⟨hI.world, hI.defers.trans hsz.2.symm, hI.size.trans hsz.1.symm, fun t => ?_⟩
    by_cases hw : ∃ (j : Nat) (oj : Oper), j < n ∧ ops[j]? = some oj ∧ oj.dst = some t
    · obtain ⟨j, oj, hjn, hj, hd⟩ := hw
      have hjl := (Array.getElem?_eq_some_iff.1 hj).1
      have hl : listed.getD j false = true := by
        have h1 := hall j hjn
        have h2 : j < listed.size := by rw [hI.lsize]; exact hjl
        simpa [h2] using h1
      have h1 := hI.done j oj t hj hl hd
      have h2 := path_other hS0 hn hst hin (t := t) (a1.tmps.getD t undef) w1 (j + 1) (n - (j + 1)) (by omega) (fun i oi h1 h2 hi hdi => by
        have := hone i j oi oj t hi hj hdi hd; omega)
      rw [show j + 1 + (n - (j + 1)) = n by omega] at h2
      exact h2.2 h1
    · have h1 := hI.rest t (fun j oj hj hl hd => by
        by_cases hjn : j < n
        · exact hw ⟨j, oj, hjn, hj, hd⟩
        · have hjl := (Array.getElem?_eq_some_iff.1 hj).1
          have := hI.tail j (by omega) hjl
          have h2 : j < listed.size := by rw [hI.lsize]; exact hjl
          simp [h2] at this hl
          rw [this] at hl; cases hl)
      have h2 := path_other hS0 hn hst hin (t := t) (a1.tmps.getD t undef) w1 0 n (by omega) (fun j oj _ h2 hj hd => hw ⟨j, oj, by omega, hj, hd⟩)
      rw [Nat.zero_add] at h2
      exact h2.2 ((slot0 hS0 t _ w1).2 h1)
  intro fuel
  induction fuel with
  | zero =>
    rintro listed a1 w1 ⟨s, hs, hlen⟩ hI
    refine hend 0 listed a1 w1 ⟨s, hs, hlen⟩ hI (fun i hi => ?_)
    have hnil : s = [] := List.eq_nil_of_length_eq_zero hlen
    subst hnil
    have := List.filter_eq_nil_iff.1 hs i (List.mem_range.2 (by omega))
    simpa using this
  | succ fuel ih =>
    rintro listed a1 w1 ⟨s, hs, hlen⟩ hI
    by_cases hdone : ∀ i, i < n → listed.getD i true = true
    · exact hend (fuel + 1) listed a1 w1 ⟨s, hs, hlen⟩ hI hdone
    refine ⟨fun h0 => absurd (fun i hi => hready listed hI.lsize h0 i (by omega)) hdone, fun i hi => ?_⟩
    obtain ⟨hun, oi, hoi, hall⟩ := mem_ready.1 hi
    have hin' : i < n := by
      rcases Nat.lt_or_ge i n with h | h
      · exact h
      · exfalso
        refine hdone (fun j hj => ?_)
        obtain ⟨e, he, hb, heq⟩ := hwait i oi h hoi j hj
        have h1 := hall e he hb
        rw [heq] at h1
        have h2 : j < listed.size := by rw [hI.lsize]; omega
        simpa [h2] using h1
    have hil := (Array.getElem?_eq_some_iff.1 hoi).1
    have hill : i < listed.size := by rw [hI.lsize]; exact hil
    have hunf : listed.getD i false = false := by simpa [hill] using hun
    have hcount : ∃ s', (List.range ops.size).filter (fun j => !(listed.setIfInBounds i true).getD j true) = s' ∧ s'.length = fuel := by
      refine ⟨_, rfl, ?_⟩
      have hn : (List.range ops.size).Nodup := List.nodup_range
      have e : (List.range ops.size).filter (fun j => !(listed.setIfInBounds i true).getD j true) = ((List.range ops.size).filter fun j => !listed.getD j true).erase i := by
        rw [List.Nodup.erase_eq_filter (List.Pairwise.filter _ hn), List.filter_filter]
        apply List.filter_congr
        intro j hj
        by_cases hji : j = i
        · subst hji; simp [hill]
        · rw [getD_set_ne true (Ne.symm hji)]; simp [hji]
      rw [e, List.length_erase_of_mem (List.mem_filter.2 ⟨List.mem_range.2 hil, by simp only [hun]; rfl⟩), hs, hlen]
      rfl
    -- what the operation looks at is as the walk had it
    have hlook : ∀ t ∈ oi.looksAt ops, slotIs (S i).1 (S i).2 t (a1.tmps.getD t undef) w1 := by
      intro t ht
      have hback : (∀ (j : Nat) (oj : Oper), ops[j]? = some oj → oj.dst = some t → i ≤ j) → (∀ (j : Nat) (oj : Oper), ops[j]? = some oj → oj.dst = some t → listed.getD j false = false) → slotIs (S i).1 (S i).2 t (a1.tmps.getD t undef) w1 := by
        intro h1 h2
        have h3 := path_other hS0 hn hst hin (t := t) (a1.tmps.getD t undef) w1 0 i (by omega) (fun j oj _ hj ho hd => by have := h1 j oj ho hd; omega)
        rw [Nat.zero_add] at h3
        refine h3.2 ((slot0 hS0 t _ w1).2 (hI.rest t (fun j oj hj hl hd => ?_)))
        rw [h2 j oj hj hd] at hl; cases hl
      by_cases hw : ∃ (j : Nat) (oj : Oper), ops[j]? = some oj ∧ oj.dst = some t
      · obtain ⟨j, oj, hj, hd⟩ := hw
        have huniq : ∀ (j' : Nat) (oj' : Oper), ops[j']? = some oj' → oj'.dst = some t → j' = j := fun j' oj' h1 h2 => hone j' j oj' oj t h1 hj h2 hd
        rcases Nat.lt_trichotomy j i with hji | hji | hji
        · rcases (hlex j oj hj).2 i oi hji hoi with ⟨e, he, hb, heq⟩ | hap
          · have hl : listed.getD j false = true := by rw [← heq]; exact hall e he hb
            have h1 := hI.done j oj t hj hl hd
            have h2 := path_other hS0 hn hst hin (t := t) (a1.tmps.getD t undef) w1 (j + 1) (i - (j + 1)) (by omega) (fun j' oj' h1 _ h3 h4 => by have := huniq j' oj' h3 h4; omega)
            rw [show j + 1 + (i - (j + 1)) = i by omega] at h2
            exact h2.2 h1
          · exact absurd ht ((Oper.apart_spec hap).1 t hd)
        · subst hji
          refine hback (fun j' oj' h1 h2 => by have := huniq j' oj' h1 h2; omega) (fun j' oj' h1 h2 => by rw [huniq j' oj' h1 h2]; exact hunf)
        · rcases (hlex i oi hoi).2 j oj hji hj with ⟨e, he, hb, heq⟩ | hap
          · refine hback (fun j' oj' h1 h2 => by have := huniq j' oj' h1 h2; omega) (fun j' oj' h1 h2 => ?_)
            rw [huniq j' oj' h1 h2]
            rcases hlj : listed.getD j false with _ | _
            · rfl
            · have := hI.closed j oj hj hlj e he hb
              rw [heq, hunf] at this; cases this
          · exact absurd ht ((Oper.apart_spec hap).2.2 t hd)
      · exact hback (fun j oj h1 h2 => absurd ⟨j, oj, h1, h2⟩ hw) (fun j oj h1 h2 => absurd ⟨j, oj, h1, h2⟩ hw)
    have hsz := path_sizes hS0 hn hst i (by omega)
    have hsame : a1.tmps.size = (S i).2.tmps.size := hI.size.trans hsz.1.symm
    -- behind it
    have hnext : ∀ (v : Value) (w' : World), (∀ d, oi.dst = some d → slotIs (S (i + 1)).1 (S (i + 1)).2 d v w') → Grw w1 w' → RunInv md n ops C a0 S (listed.setIfInBounds i true) (a1.put oi.dst v) w' := by
      intro v w' hv hb
      have hget : ∀ t, oi.dst ≠ some t → (a1.put oi.dst v).tmps.getD t undef = a1.tmps.getD t undef := by
        intro t ht
        cases hd : oi.dst with
        | none => rfl
        | some d => rw [put_getD a1 d t v (by rw [hI.size]; exact hin i oi d hoi hd), if_neg (fun e => ht (by rw [hd, e]))]
      have hlist : ∀ j, (listed.setIfInBounds i true).getD j false = true → j = i ∨ listed.getD j false = true := by
        intro j hj
        by_cases hji : j = i
        · exact .inl hji
        · rw [getD_set_ne false (Ne.symm hji)] at hj; exact .inr hj
      refine ⟨hC _ _ hI.world hb, (put_defers _ _ _).trans hI.defers, (put_size _ _ _).trans hI.size, by simpa using hI.lsize, fun j oj hj hl e he hbd => ?_, fun j hnj hjl => ?_, fun j oj d hj hl hd => ?_, fun t ht => ?_⟩
      · rcases hlist j hl with rfl | hl
        · obtain rfl : oj = oi := by rw [hoi] at hj; simpa using hj.symm
          exact getD_set_true (hall e he hbd)
        · exact getD_set_true (hI.closed j oj hj hl e he hbd)
      · rw [getD_set_ne true (by omega)]; exact hI.tail _ hnj hjl
      · rcases hlist j hl with rfl | hl
        · obtain rfl : oj = oi := by rw [hoi] at hj; simpa using hj.symm
          rw [hd, put_getD a1 d d v (by rw [hI.size]; exact hin j oj d hj hd), if_pos rfl]
          exact hv d hd
        · have hne : oi.dst ≠ some d := by
            intro h
            have := hone i j oi oj d hoi hj h hd
            subst this
            rw [hunf] at hl; cases hl
          rw [hget d hne]
          exact (hI.done j oj d hj hl hd).keep hb.below
      · have hne : oi.dst ≠ some t := ht i oi hoi (by simp [hill])
        rw [hget t hne]
        exact hI.rest t (fun j oj hj hl => ht j oj hj (getD_set_true hl))
    have hkey : ∀ d, oi.dst = some d → (S i).1.lookup d = none := fun d hd => path_keys hS0 hn hst i (by omega) (fun j oj h1 h2 h3 => by have := hone j i oj oi d h2 hoi h3 hd; omega)
    have hstep := hst i oi hin' hoi
    unfold wpOp
    simp only [hoi]
    generalize hSi : S i = si at *
    generalize hSj : S (i + 1) = sj at *
    obtain ⟨Ii, ai⟩ := si
    obtain ⟨Ij, aj⟩ := sj
    simp only at hstep hlook hnext hsame hkey
    cases hstep with
    | skip hg hw =>
      rw [wanted_looks hg hsame hlook, hw]
      simp only [Bool.false_eq_true, if_false]
      refine ih _ _ _ hcount (hnext undef w1 (fun d hd => ?_) (Grw.refl _))
      unfold slotIs
      rw [hkey d hd, hd]
      simp only
      rw [put_getD ai d d undef (by rw [← hsame, hI.size]; exact hin i oi d hoi hd), if_pos rfl]
    | val v hg hw h =>
      rw [wanted_looks hg hsame hlook, hw]
      simp only [if_true]
      refine .inl (h a1 w1 hI.world hlook _ _ (fun u w' hu hb => ih _ _ _ hcount (hnext u w' (fun d hd => ?_) hb)))
      unfold slotIs
      rw [hkey d hd, hd]
      simp only
      rw [put_getD ai d d v (by rw [← hsame, hI.size]; exact hin i oi d hoi hd), if_pos rfl]
      exact hu
    | ty d R hd hg hw h =>
      rw [wanted_looks hg hsame hlook, hw]
      simp only [if_true]
      refine .inl (h a1 w1 hI.world hlook _ _ (fun u w' hu hb => ih _ _ _ hcount (hnext u w' (fun d' hd' => ?_) hb)))
      obtain rfl : d = d' := by rw [hd] at hd'; simpa using hd'
      unfold slotIs
      rw [List.lookup_cons]
      simp only [BEq.rfl]
      exact hu

/-- THE REGION -/
theorem wp_region_lax {id : Nat} {Q : Exit → Act → World → Prop} {a : Act} {w : World} {l : List Oper} (hm : P.follows .mixedOrders = true) (hB : Region.lexB .any l.toArray = true) (hD : dstsB l a.tmps.size = true)
    (h : wpT P l.toArray (Grw w) (fun a' w' => Q .normal a' w') l [] a) : (Code.region id l.toArray true).wp P Q a w := by
  obtain ⟨S, hS0, hst, hfin⟩ := wpT_path l [] a h
  have hB' : Region.lexFrom .any l.toArray l.toArray.size 0 (Array.replicate l.toArray.size false) = true := by
    simp only [Region.lexB, Bool.and_eq_true] at hB; exact hB.2
  refine wp_region_any hm ?_
  refine wpAny_lax (P := P) (ops := l.toArray) (C := Grw w) (md := .any) (a0 := a) (S := S) (fun w1 w2 h1 h2 => h1.trans h2) hS0 (n := l.toArray.size) (Nat.le_refl _) (fun k o _ hk => hst k o (by simpa using hk))
    (fun k o d hk hd => dsts_lt hD (k := k) (by simpa using hk) hd) (fun j k x y d hj hk hx hy => dsts_one hD (j := j) (k := k) (by simpa using hj) (by simpa using hk) hx hy)
    (fun i oi hi => lexFrom_free _ 0 _ hB' (by simp) (fun i => ?_) (by simp) i oi (Nat.zero_le _) hi) (fun i oi hi ho => absurd (Array.getElem?_eq_some_iff.1 ho).1 (by omega))
    (fun fuel listed a1 w1 ⟨s, hs, hlen⟩ hls hall _ hr => ?_) _ _ _ _ ⟨_, rfl, ?_⟩ (start_inv (Grw.draw w))
  · by_cases hi : i < l.length
    · simp [hi]
    · simp [hi]; omega
  · have hq : Q .normal a1 w1 := hfin a1 w1 (by simpa using hr)
    have hnr : Region.ready .any l.toArray listed = [] := by
      apply List.eq_nil_iff_forall_not_mem.2
      intro i hi
      obtain ⟨h0, o, ho, _⟩ := mem_ready.1 hi
      have := hall i (Array.getElem?_eq_some_iff.1 ho).1
      rw [this] at h0; cases h0
    exact wpAny_done hnr hq fuel
  · rw [count_none]; simp

/-- THE REGION WITH A STORE AT ITS END: all else by the walk, then the last operation -/
theorem wp_region_laxT {id : Nat} {Q : Exit → Act → World → Prop} {a : Act} {w : World} {l : List Oper} (n : Nat) (hn : l.length = n + 1) (hm : P.follows .mixedOrders = true) (hB : Region.lexB .any l.toArray = true) (hD : dstsB l a.tmps.size = true) (hW : waitsB l = true)
    (h : wpT P l.toArray (Grw w) (fun a' w' => wpList P l.toArray Q (l.drop n) a' w') (l.take n) [] a) : (Code.region id l.toArray true).wp P Q a w := by
  obtain ⟨S, hS0, hst, hfin⟩ := wpT_path (l.take n) [] a h
  have hB' : Region.lexFrom .any l.toArray l.toArray.size 0 (Array.replicate l.toArray.size false) = true := by
    simp only [Region.lexB, Bool.and_eq_true] at hB; exact hB.2
  have hsz : l.toArray.size = n + 1 := by simpa using hn
  obtain ⟨o, ho⟩ : ∃ o, l[n]? = some o := ⟨l[n], by simp [hn]⟩
  have hlast : l.getLast? = some o := by rw [List.getLast?_eq_getElem?, hn]; exact ho
  have hdrop : l.drop n = [o] := by
    have h1 : n < l.length := by omega
    rw [List.drop_eq_getElem_cons h1, List.drop_eq_nil_of_le (by omega)]
    rw [List.getElem?_eq_getElem h1] at ho
    rw [Option.some.inj ho]
  have hlen : (l.take n).length = n := by rw [List.length_take]; omega
  refine wp_region_any hm ?_
  refine wpAny_lax (P := P) (ops := l.toArray) (C := Grw w) (md := .any) (a0 := a) (S := S) (fun w1 w2 h1 h2 => h1.trans h2) hS0 (n := n) (by omega) (fun k o' hk ho' => hst k o' (by rw [List.getElem?_take_of_lt hk]; simpa using ho'))
    (fun k o d hk hd => dsts_lt hD (k := k) (by simpa using hk) hd) (fun j k x y d hj hk hx hy => dsts_one hD (j := j) (k := k) (by simpa using hj) (by simpa using hk) hx hy)
    (fun i oi hi => lexFrom_free _ 0 _ hB' (by simp) (fun i => ?_) (by simp) i oi (Nat.zero_le _) hi) (fun i oi hi hoi j hj => ?_)
    (fun fuel listed a1 w1 ⟨s, hs, hcnt⟩ hls hall htail hr => ?_) _ _ _ _ ⟨_, rfl, ?_⟩ (start_inv (Grw.draw w))
  · by_cases hi : i < l.length
    · simp [hi]
    · simp [hi]; omega
  · have hil := (Array.getElem?_eq_some_iff.1 hoi).1
    obtain rfl : i = n := by omega
    obtain rfl : o = oi := by have : l[i]? = some oi := by simpa using hoi
                              rw [ho] at this; exact Option.some.inj this
    unfold waitsB at hW
    rw [hlast] at hW
    simp only [List.all_eq_true, List.mem_range] at hW
    obtain ⟨e, he, hb⟩ := Array.any_eq_true'.1 (hW j (by omega))
    simp only [Bool.and_eq_true, beq_iff_eq] at hb
    exact ⟨e, he, hb.1, hb.2⟩
  · -- only the last one is left
    have hq : wpList P l.toArray Q [o] a1 w1 := by
      have := hfin a1 w1 (by rw [hlen]; exact hr)
      rwa [hdrop] at this
    have hnl : listed.getD n true = false := htail n (Nat.le_refl _) (by omega)
    have hfuel : fuel = 1 := by
      rw [← hcnt, ← hs, hsz, List.range_succ, List.filter_append]
      have : (List.range n).filter (fun i => !listed.getD i true) = [] := by
        apply List.filter_eq_nil_iff.2
        intro i hi
        rw [hall i (List.mem_range.1 hi)]
        simp
      rw [this]
      simp only [List.nil_append, List.filter_cons, hnl]
      rfl
    subst hfuel
    have hon : l.toArray[n]? = some o := by simpa using ho
    refine ⟨fun h0 => ?_, fun i hi => ?_⟩
    · exfalso
      have : n ∈ Region.ready .any l.toArray listed := by
        refine mem_ready.2 ⟨hnl, o, hon, fun e he hb => ?_⟩
        have h1 := (lexFrom_free _ 0 _ hB' (by simp) (fun i => by by_cases hi : i < l.length <;> simp [hi]; omega) (by simp) n o (Nat.zero_le _) hon).1 e he hb
        have h2 := hall e.on h1
        have h3 : e.on < listed.size := by omega
        simpa [h3] using h2
      rw [h0] at this; cases this
    · obtain ⟨hun, oi, hoi, _⟩ := mem_ready.1 hi
      have hil := (Array.getElem?_eq_some_iff.1 hoi).1
      obtain rfl : i = n := by
        rcases Nat.lt_or_ge i n with h1 | h1
        · rw [hall i h1] at hun; cases hun
        · omega
      have hnr : Region.ready .any l.toArray (listed.setIfInBounds i true) = [] := by
        apply List.eq_nil_iff_forall_not_mem.2
        intro j hj
        obtain ⟨h0, oj, hoj, _⟩ := mem_ready.1 hj
        have hjl := (Array.getElem?_eq_some_iff.1 hoj).1
        by_cases hji : j = i
        · subst hji
          have h3 : j < listed.size := by omega
          simp [h3] at h0
        · rw [getD_set_ne true (Ne.symm hji), hall j (by omega)] at h0; cases h0
      have hmono : ∀ a2 w2, wpList P l.toArray Q [] a2 w2 → wpAny P .any l.toArray Q 0 (listed.setIfInBounds i true) a2 w2 := fun a2 w2 h2 => wpAny_done hnr h2 0
      unfold wpOp
      simp only [hon]
      unfold wpList at hq
      split
      · rename_i hw
        rw [if_pos hw] at hq
        exact hq.imp (Oper.wp_mono hmono) (fun h => h)
      · rename_i hw
        rw [if_neg hw] at hq
        exact hmono _ _ hq
  · rw [count_none]; simp

/-! ### The steps of the walk -/
section steps
variable {Q : Act → World → Prop} {o : Oper} {rest : List Oper} {I : Lx} {a : Act}

theorem wpT_move {x : Operand} (v : Value) (ho : o.op = .move x) (hv : a.eval x = v) (hx : known I x = true) (hg : guardKnown ops o I = true) (hw : Region.wanted o (yielded ops a.tmps) = true) (k : wpT P ops C Q rest I (a.put o.dst v)) : wpT P ops C Q (o :: rest) I a :=
  ⟨_, _, .val v hg hw (fun a1 w _ ht K Q' hK => by
    have e := known_eval hx (by rw [ho]; simp [Op.operands]) ht
    unfold Oper.wp
    simp only [ho, execOp]
    rw [e, hv]
    exact hK _ _ rfl (Grw.refl _)), k⟩

/-- an operation over known slots: run once, in any world of the class -/
theorem wpT_run (v : Value) (hs : notSelect o = true) (hl : (o.op.operands.toList.all (known I)) = true) (hg : guardKnown ops o I = true) (hw : Region.wanted o (yielded ops a.tmps) = true)
    (hrun : ∀ w, C w → (execOp a.eval o).run P w = .ok (.value v) w) (k : wpT P ops C Q rest I (a.put o.dst v)) : wpT P ops C Q (o :: rest) I a :=
  ⟨_, _, .val v hg hw (fun a1 w hC ht K Q' hK => by
    have e : execOp a1.eval o = execOp a.eval o := execOp_congr o (fun cs b h => by simp [notSelect, h] at hs) fun x hx => known_eval (by
      simp only [List.all_eq_true] at hl
      exact hl x (by simpa using hx)) hx ht
    unfold Oper.wp
    rw [e, hrun w hC]
    exact hK _ _ rfl (Grw.refl _)), k⟩

theorem wpT_end (hk : ((I.map (·.1)).Nodup && (I.map (·.1)).all (· < a.tmps.size)) = true) (h : ∀ w, C w → FinQ Q I a w) : wpT P ops C Q [] I a := fun a1 w1 hr => by
  simp only [Bool.and_eq_true, decide_eq_true_eq, List.all_eq_true] at hk
  exact rep_fin I a a1 w1 rfl hk.1 hk.2 hr (h w1 hr.world)
end steps


/-! ### The same over a frame that is a list -/
section lists
variable {Q : Act → World → Prop} {o : Oper} {rest : List Oper} {I : Lx} {fs : List Value} {ds : List Deferred}

/-- THE WALK over a list -/
def wpL (P : Program) (ops : Array Oper) (C : World → Prop) (Q : Act → World → Prop) (ds : List Deferred) (l : List Oper) (I : Lx) (fs : List Value) : Prop := wpT P ops C Q l I (mkA fs ds)

theorem wp_lax_list {id : Nat} {Q : Exit → Act → World → Prop} {w : World} {l : List Oper} (hm : P.follows .mixedOrders = true) (hB : Region.lexB .any l.toArray = true) (hD : dstsB l fs.length = true)
    (h : wpL P l.toArray (Grw w) (fun a' w' => Q .normal a' w') ds l [] fs) : (Code.region id l.toArray true).wp P Q ⟨fs.toArray, ds⟩ w :=
  wp_region_lax hm hB (by simpa using hD) h

/-- with a store at the region's end -/
theorem wp_laxT_list {id : Nat} {Q : Exit → Act → World → Prop} {w : World} {l : List Oper} (n : Nat) (hn : l.length = n + 1) (hm : P.follows .mixedOrders = true) (hB : Region.lexB .any l.toArray = true) (hD : dstsB l fs.length = true) (hW : waitsB l = true)
    (h : wpL P l.toArray (Grw w) (fun a' w' => wpList P l.toArray Q (l.drop n) a' w') ds (l.take n) [] fs) : (Code.region id l.toArray true).wp P Q ⟨fs.toArray, ds⟩ w :=
  wp_region_laxT n hn hm hB (by simpa using hD) hW h

theorem wpL_move {x : Operand} (v : Value) (ho : o.op = .move x) (hv : ev fs x = v) (hx : known I x = true) (hg : guardKnown ops o I = true) (hw : wantedL ops fs o = true) (k : wpL P ops C Q ds rest I (setL fs o.dst v)) : wpL P ops C Q ds (o :: rest) I fs :=
  wpT_move v ho ((mkA_eval x).trans hv) hx hg (wantedL_eq.trans hw) (by rw [mkA_put]; exact k)
theorem wpL_run (v : Value) (hs : notSelect o = true) (hl : (o.op.operands.toList.all (known I)) = true) (hg : guardKnown ops o I = true) (hw : wantedL ops fs o = true)
    (hrun : ∀ w, C w → (execOp (ev fs) o).run P w = .ok (.value v) w) (k : wpL P ops C Q ds rest I (setL fs o.dst v)) : wpL P ops C Q ds (o :: rest) I fs :=
  wpT_run v hs hl hg (wantedL_eq.trans hw) (by rw [mkA_evalF]; exact hrun) (by rw [mkA_put]; exact k)
/-- run against a frame that is a variable, from what its operands are -/
theorem wpL_run1 {x : Operand} (vx v : Value) (hx : ev fs x = vx) (hs : notSelect o = true) (hl : (o.op.operands.toList.all (known I)) = true) (hg : guardKnown ops o I = true) (hw : wantedL ops fs o = true)
    (hrun : ∀ w (ρ : Operand → Value), C w → ρ x = vx → (∀ c, ρ (.const c) = c) → (execOp ρ o).run P w = .ok (.value v) w) (k : wpL P ops C Q ds rest I (setL fs o.dst v)) : wpL P ops C Q ds (o :: rest) I fs :=
  wpL_run v hs hl hg hw (fun w hC => hrun w _ hC hx fun _ => rfl) k
theorem wpL_run2 {x y : Operand} (vx vy v : Value) (hx : ev fs x = vx) (hy : ev fs y = vy) (hs : notSelect o = true) (hl : (o.op.operands.toList.all (known I)) = true) (hg : guardKnown ops o I = true) (hw : wantedL ops fs o = true)
    (hrun : ∀ w (ρ : Operand → Value), C w → ρ x = vx → ρ y = vy → (∀ c, ρ (.const c) = c) → (execOp ρ o).run P w = .ok (.value v) w) (k : wpL P ops C Q ds rest I (setL fs o.dst v)) : wpL P ops C Q ds (o :: rest) I fs :=
  wpL_run v hs hl hg hw (fun w hC => hrun w _ hC hx hy fun _ => rfl) k
theorem wpL_end (hk : ((I.map (·.1)).Nodup && (I.map (·.1)).all (· < fs.length)) = true) (h : ∀ w, C w → FinL Q ds I fs w) : wpL P ops C Q ds [] I fs :=
  wpT_end (by simpa [mkA] using hk) (fun w hw => finL_finQ I fs w (h w hw))
end lists

end
end Go.Own.Grn

end
section
namespace Go.Proofs.Ytcfdjoohbicomaa
open Go.RowKit Go.Own Go.Sort Go.Shelf
namespace Sto
open Go.StoM Byt
abbrev FC := { c : Ch // Fit c }
instance : Inhabited FC := ⟨⟨zeroCh, zero_fit⟩⟩
theorem St.grow {B : Nat} {w0 w : World} {Ps : List Asn} (H : Own.St B w0 w Ps) (os : Array Obj) : Own.St B w0 (Sort.grow w os) Ps :=
  H.quiet (T := fun _ => False) ⟨rfl, rfl, rfl, by simp [Sort.grow], fun k hk _ => by
    show (w.heap ++ os)[k]? = _
    rw [Array.getElem?_append_left hk], fun _ h => h.elim⟩
section
variable {B : Nat} {w0 w : World} {Ps : List Asn}
end
/-! ### the two orders -/
end Sto
end Go.Proofs.Ytcfdjoohbicomaa

end
section
namespace Go.Proofs.Ytcfdjoohbicomaa
open Go.RowKit Go.Own Go.Maps
namespace Sto
open Go.StoM Byt
def actC (a : ActD) : List Value := .int .u8 (a.kind.toNat : Int) :: (kC a.k ++ pC a.p)
structure FitA (a : ActD) : Prop where
  k : FitK a.k
  p : FitP a.p
theorem actC_len {a : ActD} (h : FitA a) : (actC a).length = 37 := by unfold actC; simp [kC_len h.k, pC]
theorem actC_one (a : ActD) : ∀ u ∈ actC a, u.oneCell' = true := by
  intro u hu
  unfold actC pC at hu
  simp only [List.mem_cons, List.mem_append, List.not_mem_nil, or_false] at hu
  rcases hu with rfl | h | rfl | rfl | rfl
  · rfl
  · exact kC_one _ u h
  all_goals rfl
theorem info_act (cs : List Value) (h : cs.length = 37) : (Try.prog.info? 39).map (·.size) = some cs.length := by
  have h0 : (Try.prog.info? 39).map (fun i => i.size) = some 37 := by kernel_rfl
  rw [h]; exact h0
theorem load_act (cs : List Value) (hl : cs.length = 37) {o : Oper} {x : Tmp} (ho : o.op = .load 39 (.tmp x)) {b k : Nat} (ρ : Operand → Value) {w : World} (hr : w.rangeAt b k cs) (h0 : ρ (.tmp x) = .pointer (some ⟨b, k, none⟩)) : (execOp ρ o).run Try.prog w = .ok (.value (.agg cs.toArray)) w := by
  have := run_loadAt_mid (P := Try.prog) w b k 39 cs _ hr Try.underlying39 rfl (info_act cs hl)
  unfold execOp
  simp only [ho, h0, Sem.run_bind, this, Result.andThen_ok, Sem.run_pure]
def zA : ActD := ⟨0, zeroCh.key, zeroCh.place⟩
theorem boxy_act : Boxy Try.prog 39 37 := boxy_of (actC zA).toArray (by kernel_rfl) (by kernel_rfl) (by kernel_rfl)
theorem idx_act {o : Oper} {x y : Tmp} (ho : o.op = .indexAddr 22 (.tmp x) (.tmp y)) {b o' n c k : Nat} (hk : k < n) (ρ : Operand → Value) (w : World) (h0 : ρ (.tmp x) = .slice (some ⟨b, o', none⟩) n c) (h1 : ρ (.tmp y) = .int .i64 (k : Int)) : (execOp ρ o).run Try.prog w = .ok (.value (.pointer (some ⟨b, o' + k * 37, none⟩))) w := by
  have hk' : (k : Int) < (n : Int) := by omega
  have hs : ∀ w, (sizeOf 39).run Try.prog w = .ok 37 w := fun w => by kernel_rfl
  simp [execOp, ho, h0, h1, go_sem, hk', add_of, hs]
theorem actC_key {a : ActD} (j : Nat) (u : Value) (hu : (kC a.k)[j]? = some u) : (actC a)[1 + j]? = some u := by
  unfold actC
  rw [Nat.add_comm, List.getElem?_cons_succ, List.getElem?_append_left (List.getElem?_eq_some_iff.1 hu).1]
  exact hu
theorem actC_pl {a : ActD} (h : FitA a) (j : Nat) : (actC a)[34 + j]? = (pC a.p)[j]? := by
  unfold actC
  rw [show 34 + j = (33 + j) + 1 by omega, List.getElem?_cons_succ, List.getElem?_append_right (by rw [kC_len h.k]; omega), kC_len h.k]
  congr 1
  omega
/-- the bounds of what some acts leave -/
structure Lim (l : List Ch) (N : Nat) : Prop where
  len : l.length ≤ N
  refs : ∀ c ∈ l, 1 ≤ c.refs ∧ c.refs ≤ N
theorem Lim.more {l : List Ch} {N M : Nat} (h : Lim l N) (hm : N ≤ M) : Lim l M := ⟨Nat.le_trans h.len hm, fun c hc => ⟨(h.refs c hc).1, by have := (h.refs c hc).2; omega⟩⟩
theorem lim_put {l : List Ch} {N : Nat} (ok : Ok l) (h : Lim l N) {c : Ch} (hr : 1 ≤ c.refs ∧ c.refs ≤ (N : Int) + 1) : Lim (putS l c) (N + 1) := by
  refine ⟨?_, fun d hd => ?_⟩
  · rw [putS_len]
    have := h.len
    split <;> omega
  · rcases (mem_putS ok.sorted).1 hd with g | g
    · have := h.refs d g.1
      exact ⟨this.1, by have := this.2; omega⟩
    · rw [g]; exact ⟨hr.1, by have := hr.2; omega⟩
theorem ok_erase {l : List Ch} (ok : Ok l) (i : Nat) : Ok (l.eraseIdx i) := ⟨sorted_erase ok.sorted i, fun c hc => ok.fit c ((List.eraseIdx_sublist _ _).subset hc)⟩
theorem lim_erase {l : List Ch} {N : Nat} (h : Lim l N) (i : Nat) : Lim (l.eraseIdx i) (N + 1) := by
  refine ⟨?_, fun c hc => ?_⟩
  · have := h.len
    have := (List.eraseIdx_sublist l i).length_le
    omega
  · have := h.refs c ((List.eraseIdx_sublist _ _).subset hc)
    exact ⟨this.1, by have := this.2; omega⟩
theorem get_lim {l : List Ch} {N : Nat} (h : Lim l N) {k : Ky} (hk : isAt l k = true) : 1 ≤ (getS l k).refs ∧ (getS l k).refs ≤ N := by
  rw [getS_at hk]
  exact h.refs _ (at_mem hk).1
theorem get_key {l : List Ch} {k : Ky} (hk : isAt l k = true) : (getS l k).key = k := by rw [getS_at hk]; exact (at_mem hk).2
theorem fit_wR {l : List Ch} (ok : Ok l) (k : Ky) {x : Int} (hx : i64S x) : Fit (wR (getS l k) x) := ⟨(getS_fit ok k).key, (getS_fit ok k).place, hx⟩
theorem act_ok {l : List Ch} {N : Nat} (ok : Ok l) (h : Lim l N) (hN : N ≤ 1000000) {a : ActD} (fa : FitA a) : Ok (doAct l a).1 ∧ Lim (doAct l a).1 (N + 1) := by
  unfold doAct
  split
  · simp only
    rw [addS_fst]
    split
    · exact ⟨ok, h.more (Nat.le_succ _)⟩
    · exact ⟨ok_put ok ⟨fa.k, fa.p, ⟨by show (-9223372036854775808 : Int) ≤ 1; decide, by show (1 : Int) ≤ 9223372036854775807; decide⟩⟩, lim_put ok h ⟨by show (1 : Int) ≤ 1; decide, by show (1 : Int) ≤ N + 1; omega⟩⟩
  · simp only
    cases hk : isAt l a.k
    · rw [refS_no hk]; exact ⟨ok, h.more (Nat.le_succ _)⟩
    · rw [refS_yes hk]
      have := get_lim h hk
      exact ⟨ok_put ok (fit_wR ok _ ⟨by omega, by omega⟩), lim_put ok h ⟨by show 1 ≤ (getS l a.k).refs + 1; omega, by show (getS l a.k).refs + 1 ≤ _; omega⟩⟩
  · cases hk : isAt l a.k
    · rw [unrefS_no hk]; exact ⟨ok, h.more (Nat.le_succ _)⟩
    · have := get_lim h hk
      by_cases h2 : (getS l a.k).refs - 1 > 0
      · rw [unrefS_more hk h2]
        exact ⟨ok_put ok (fit_wR ok _ ⟨by omega, by omega⟩), lim_put ok h ⟨by show 1 ≤ (getS l a.k).refs - 1; omega, by show (getS l a.k).refs - 1 ≤ _; omega⟩⟩
      · rw [unrefS_last hk h2]
        exact ⟨ok_erase ok _, lim_erase h _⟩
  · simp only
    cases hk : isAt l a.k
    · rw [moveS_no hk]; exact ⟨ok, h.more (Nat.le_succ _)⟩
    · rw [moveS_yes hk]
      have := get_lim h hk
      have hf := getS_fit ok a.k
      exact ⟨ok_put ok ⟨hf.key, fa.p, hf.refs⟩, lim_put ok h ⟨this.1, by have := this.2; show (getS l a.k).refs ≤ _; omega⟩⟩
theorem act_add {l : List Ch} {a : ActD} (h : a.kind.toNat % 4 = 0) : doAct l a = ((addS l a.k a.p).1, false, (addS l a.k a.p).2) := by unfold doAct; rw [h]; rfl
theorem act_ref {l : List Ch} {a : ActD} (h : a.kind.toNat % 4 = 1) : doAct l a = ((refS l a.k).1, false, (refS l a.k).2) := by unfold doAct; rw [h]; rfl
theorem act_unref {l : List Ch} {a : ActD} (h : a.kind.toNat % 4 = 2) : doAct l a = unrefS l a.k := by unfold doAct; rw [h]; rfl
theorem act_move {l : List Ch} {a : ActD} (h : a.kind.toNat % 4 = 3) : doAct l a = ((moveS l a.k a.p).1, false, (moveS l a.k a.p).2) := by unfold doAct; rw [h]; rfl
def actV (x : List Ch × Bool × Nat) : Value := .tuple #[.bool x.2.1, errS x.2.2]
section
variable {B : Nat} {w0 w : World} {Ps : List Asn} {p : Nat} {l : List Ch} {N : Nat}
set_option maxRecDepth 10000 in
set_option maxHeartbeats 6400000 in
theorem does_any (H : Own.St B w0 w (AS p l :: Ps)) (ok : Ok l) (lim : Lim l N) (hN : N ≤ 100000) (a : ActD) (fa : FitA a) : Calls Try.prog 13 #[ptr p, .agg (actC a).toArray] w fun e w' => e = .returned (actV (doAct l a)) ∧ Own.St B w0 w' (AS p (doAct l a).1 :: Ps) := by
  obtain ⟨cs, hcs⟩ : ∃ x, x = actC a := ⟨_, rfl⟩
  obtain ⟨kc, hkc⟩ : ∃ x, x = kC a.k := ⟨_, rfl⟩
  have KL : Hid (kc.length = 33) := by show _ = _; rw [hkc]; exact kC_len fa.k
  obtain ⟨qs, hqs⟩ : ∃ x, x = a.p.seg := ⟨_, rfl⟩
  obtain ⟨qg, hqg⟩ : ∃ x, x = a.p.page := ⟨_, rfl⟩
  obtain ⟨qn, hqn⟩ : ∃ x, x = a.p.pages := ⟨_, rfl⟩
  obtain ⟨kd, hkd⟩ : ∃ x, x = a.kind.toNat := ⟨_, rfl⟩
  obtain ⟨r, hr⟩ : ∃ r, r = kd % 4 := ⟨_, rfl⟩
  have hr4 : r < 4 := by omega
  have hri : (kd : Int) % 4 = (r : Int) := by omega
  have hkb : kd < 256 := by rw [hkd]; exact a.kind.toNat_lt
  have hbox := (H.boxV 39 cs)
  obtain ⟨X, hX⟩ : ∃ X, X = doAct l a := ⟨_, rfl⟩
  rw [← hX]
  have HX := Lib.hid hX
  obtain ⟨b, hb⟩ : ∃ b, b = w.heap.size := ⟨_, rfl⟩
  obtain ⟨W1, hW1⟩ : ∃ W, W = w.alloc (.cells cs.toArray 39) := ⟨_, rfl⟩
  rw [← hb, ← hW1] at hbox
  have H1 := Lib.hid hbox
  have c0 := (hbox.cellV 0 rfl 0 (v := .int .u8 (kd : Int)) (by rw [hcs, hkd]; rfl)).1
  have d0 := (hbox.cellV 0 rfl 34 (v := .int .i64 qs) (by rw [hcs, hqs]; exact actC_pl fa 0)).1
  have d1 := (hbox.cellV 0 rfl 35 (v := .int .i64 qg) (by rw [hcs, hqg]; exact actC_pl fa 1)).1
  have d2 := (hbox.cellV 0 rfl 36 (v := .int .i64 qn) (by rw [hcs, hqn]; exact actC_pl fa 2)).1
  have RK : Hid (W1.rangeAt b 1 kc) := fun j v hv => (hbox.cellV 0 rfl (1 + j) (by rw [hcs]; exact actC_key j v (by rw [← hkc]; exact hv))).1
  have E1 := hW1.symm
  have EB := hb.symm
  have HR := Lib.hid hr
  have HKD := Lib.hid hkd
  have C0 : Hid (r = 0 → Calls Try.prog 25 #[ptr p, .agg kc.toArray, .agg #[.int .i64 qs, .int .i64 qg, .int .i64 qn]] W1 fun e w' => e = .returned (errS X.2.2) ∧ Own.St B w0 w' (AS p X.1 :: Ps)) := by
    intro h
    rw [HX.out, act_add (by rw [← HKD.out, ← HR.out]; exact h), hkc, hqs, hqg, hqn]
    refine ((add_any (q := a.p) hbox.swap2 ok (by have := lim.len; omega) fa.k fa.p)).mono ?_
    rintro e w' ⟨rfl, h'⟩
    exact ⟨rfl, h'.drop2⟩
  have C1 : Hid (r = 1 → Calls Try.prog 26 #[ptr p, .agg kc.toArray] W1 fun e w' => e = .returned (errS X.2.2) ∧ Own.St B w0 w' (AS p X.1 :: Ps)) := by
    intro h
    rw [HX.out, act_ref (by rw [← HKD.out, ← HR.out]; exact h), hkc]
    refine ((ref_any hbox.swap2 ok (by have := lim.len; omega) fa.k (fun hk => by have := get_lim lim hk; omega))).mono ?_
    rintro e w' ⟨rfl, h'⟩
    exact ⟨rfl, h'.drop2⟩
  have C2 : Hid (r = 2 → Calls Try.prog 27 #[ptr p, .agg kc.toArray] W1 fun e w' => e = .returned (.tuple #[.bool X.2.1, errS X.2.2]) ∧ Own.St B w0 w' (AS p X.1 :: Ps)) := by
    intro h
    rw [HX.out, act_unref (by rw [← HKD.out, ← HR.out]; exact h), hkc]
    refine ((unref_any hbox.swap2 ok (by have := lim.len; omega) fa.k (fun hk => (get_lim lim hk).1))).mono ?_
    rintro e w' ⟨rfl, h'⟩
    exact ⟨rfl, h'.drop2⟩
  have C3 : Hid (r = 3 → Calls Try.prog 24 #[ptr p, .agg kc.toArray, .agg #[.int .i64 qs, .int .i64 qg, .int .i64 qn]] W1 fun e w' => e = .returned (errS X.2.2) ∧ Own.St B w0 w' (AS p X.1 :: Ps)) := by
    intro h
    rw [HX.out, act_move (by rw [← HKD.out, ← HR.out]; exact h), hkc, hqs, hqg, hqn]
    refine ((move_any (q := a.p) hbox.swap2 ok (by have := lim.len; omega) fa.k fa.p)).mono ?_
    rintro e w' ⟨rfl, h'⟩
    exact ⟨rfl, h'.drop2⟩
  have HB0 : Hid (r ≠ 2 → X.2.1 = false) := by
    intro h
    rw [HX.out]
    rcases (show r = 0 ∨ r = 1 ∨ r = 3 by omega) with g | g | g
    · rw [act_add (by rw [← HKD.out, ← HR.out]; exact g)]
    · rw [act_ref (by rw [← HKD.out, ← HR.out]; exact g)]
    · rw [act_move (by rw [← HKD.out, ← HR.out]; exact g)]
  rw [← hcs]
  clear hcs hkc hqs hqg hqn hbox hb hW1 hX hr hkd H ok lim fa
  rcases (show r = 0 ∨ r = 1 ∨ r = 2 ∨ r = 3 by omega) with h | h | h | h
  · have CX := Lib.hid (C0.out h)
    clear C0 C1 C2 C3 HR
    subst h
    clear hr4
    go_enter Try.func13, Try.ntmps13
    go_wp2_with (refine wpList_val rfl (Rec.load_key kc KL.out rfl _ (b := b) (k := 1) RK.out rfl) ?_)
    refine CX.out.mono ?_
    rintro e w2 ⟨rfl, h⟩
    have H2 := Lib.hid h
    clear h CX
    go_wp2_with (fail)
    go_ret2
    exact ⟨by unfold actV; rw [HB0.out (by decide)]; rfl, H2.out⟩
  · have CX := Lib.hid (C1.out h)
    clear C0 C1 C2 C3 HR
    subst h
    clear hr4
    go_enter Try.func13, Try.ntmps13
    go_wp2_with (refine wpList_val rfl (Rec.load_key kc KL.out rfl _ (b := b) (k := 1) RK.out rfl) ?_)
    refine CX.out.mono ?_
    rintro e w2 ⟨rfl, h⟩
    have H2 := Lib.hid h
    clear h CX
    go_wp2_with (fail)
    go_ret2
    exact ⟨by unfold actV; rw [HB0.out (by decide)]; rfl, H2.out⟩
  · have CX := Lib.hid (C2.out h)
    clear C0 C1 C2 C3 HR
    subst h
    clear hr4
    go_enter Try.func13, Try.ntmps13
    go_wp2_with (refine wpList_val rfl (Rec.load_key kc KL.out rfl _ (b := b) (k := 1) RK.out rfl) ?_)
    refine CX.out.mono ?_
    rintro e w2 ⟨rfl, h⟩
    have H2 := Lib.hid h
    clear h CX
    go_wp2_with (fail)
    go_ret2
    exact ⟨rfl, H2.out⟩
  · have CX := Lib.hid (C3.out h)
    clear C0 C1 C2 C3 HR
    subst h
    clear hr4
    go_enter Try.func13, Try.ntmps13
    go_wp2_with (refine wpList_val rfl (Rec.load_key kc KL.out rfl _ (b := b) (k := 1) RK.out rfl) ?_)
    refine CX.out.mono ?_
    rintro e w2 ⟨rfl, h⟩
    have H2 := Lib.hid h
    clear h CX
    go_wp2_with (fail)
    go_ret2
    exact ⟨by unfold actV; rw [HB0.out (by decide)]; rfl, H2.out⟩
end
theorem few_any (ao : Option Addr) (n cap : Nat) (hn : n ≤ cap) (hc : cap ≤ maxLen) (w : World) :
    Calls Try.prog 12 #[.slice ao n cap] w fun e w' => e = .returned (.slice ao (min n 200) cap) ∧ w = w' := by
  unfold maxLen at hc
  obtain ⟨k, hk⟩ : ∃ k, k = min n 200 := ⟨_, rfl⟩
  have hmin : ∀ wx, (Builtin.min_ #[3, 3] 3 #[.int .i64 (n : Int), .int .i64 200]).run Try.prog wx = .ok (.int .i64 (k : Int)) wx := by
    intro wx
    rw [show (k : Int) = min (n : Int) 200 by omega]
    simp [Builtin.min_, Builtin.min2, go_sem]
    try omega
  have hkn : k ≤ n := by omega
  have hkc : k ≤ cap := by omega
  rw [← hk]
  clear hk
  go_enter Try.func12, Try.ntmps12
  go_wp2
  go_ret
  exact ⟨rfl, rfl⟩
end Sto
end Go.Proofs.Ytcfdjoohbicomaa

end
section
namespace Go.Proofs.Ytcfdjoohbicomaa
open Go.RowKit Go.Own Go.Maps
namespace Sto
open Go.StoM Byt
/-- returns true, and old memory is as it was -/
def RetYes (w : World) (e : Ending) (w' : World) : Prop := e = .returned (.bool true) ∧ Below w.heap.size w w'
def xK : Ky := ⟨RecM.zsum, 3⟩
def xP : Pl := ⟨1, 0, 0⟩
theorem xK_fit : FitK xK := ⟨by simp [xK, RecM.zsum], by decide⟩
theorem xP_fit : FitP xP := ⟨by decide, by decide, by decide⟩
def x1 : List Ch := [⟨xK, xP, 1⟩]
def x2 : List Ch := [⟨xK, xP, 2⟩]
theorem x_ok (n : Int) (hn : i64S n) : Ok [⟨xK, xP, n⟩] := ⟨List.pairwise_singleton _ _, fun c hc => by rw [List.mem_singleton.1 hc]; exact ⟨xK_fit, xP_fit, hn⟩⟩
theorem built_xK : Try.prog.built 35 [(1, .int .u32 3)] = some (kC xK).toArray := by kernel_rfl
set_option maxRecDepth 10000 in
set_option maxHeartbeats 6400000 in
theorem shown_any (w : World) : Calls Try.prog 10 #[] w (RetYes w) := by
  obtain ⟨kc, hkc⟩ : ∃ c, c = kC xK := ⟨_, rfl⟩
  have KL : Hid (kc.length = 33) := by show _ = _; rw [hkc]; exact kC_len xK_fit
  have KO : Hid (∀ u ∈ kc, u.oneCell' = true) := by show ∀ u ∈ kc, _; rw [hkc]; exact kC_one _
  have KB : Hid (Try.prog.built 35 [(1, .int .u32 3)] = some kc.toArray) := by rw [hkc]; exact built_xK
  have CA : Hid (∀ {B : Nat} {Qs : List Asn} {p : Nat} (wx : World), Own.St B w wx (AS p [] :: Qs) → Calls Try.prog 25 #[ptr p, .agg kc.toArray, .agg #[.int .i64 1, .int .i64 0, .int .i64 0]] wx fun e w' => e = .returned (.int .i64 0) ∧ Own.St B w w' (AS p x1 :: Qs)) := by
    rw [hkc]
    intro B Qs p wx h
    exact add_any (q := xP) h ok_nil (by decide) xK_fit xP_fit
  have CR : Hid (∀ {B : Nat} {Qs : List Asn} {p : Nat} (wx : World), Own.St B w wx (AS p x1 :: Qs) → Calls Try.prog 26 #[ptr p, .agg kc.toArray] wx fun e w' => e = .returned (.int .i64 0) ∧ Own.St B w w' (AS p x2 :: Qs)) := by
    rw [hkc]
    intro B Qs p wx h
    have e : refS x1 xK = (x2, 0) := by kernel_rfl
    have g : (getS x1 xK).refs = 1 := by
      have : isAt x1 xK = true := by kernel_rfl
      rw [getS_at this]
      rfl
    have := ref_any h (x_ok 1 (by decide)) (by decide) xK_fit (fun _ => by rw [g]; decide)
    rw [e] at this
    exact this
  have CU1 : Hid (∀ {B : Nat} {Qs : List Asn} {p : Nat} (wx : World), Own.St B w wx (AS p x2 :: Qs) → Calls Try.prog 27 #[ptr p, .agg kc.toArray] wx fun e w' => e = .returned (.tuple #[.bool false, .int .i64 0]) ∧ Own.St B w w' (AS p x1 :: Qs)) := by
    rw [hkc]
    intro B Qs p wx h
    have e : unrefS x2 xK = (x1, false, 0) := by kernel_rfl
    have g : (getS x2 xK).refs = 2 := by
      have : isAt x2 xK = true := by kernel_rfl
      rw [getS_at this]
      rfl
    have := unref_any h (x_ok 2 (by decide)) (by decide) xK_fit (fun _ => by rw [g]; decide)
    rw [e] at this
    exact this
  have CU2 : Hid (∀ {B : Nat} {Qs : List Asn} {p : Nat} (wx : World), Own.St B w wx (AS p x1 :: Qs) → Calls Try.prog 27 #[ptr p, .agg kc.toArray] wx fun e w' => e = .returned (.tuple #[.bool true, .int .i64 0]) ∧ Own.St B w w' (AS p [] :: Qs)) := by
    rw [hkc]
    intro B Qs p wx h
    have e : unrefS x1 xK = ([], true, 0) := by kernel_rfl
    have g : (getS x1 xK).refs = 1 := by
      have : isAt x1 xK = true := by kernel_rfl
      rw [getS_at this]
      rfl
    have := unref_any h (x_ok 1 (by decide)) (by decide) xK_fit (fun _ => by rw [g]; decide)
    rw [e] at this
    exact this
  have CU3 : Hid (∀ {B : Nat} {Qs : List Asn} {p : Nat} (wx : World), Own.St B w wx (AS p [] :: Qs) → Calls Try.prog 27 #[ptr p, .agg kc.toArray] wx fun e w' => e = .returned (.tuple #[.bool false, .int .i64 2]) ∧ Own.St B w w' (AS p [] :: Qs)) := by
    rw [hkc]
    intro B Qs p wx h
    exact unref_any h ok_nil (by decide) xK_fit (fun h => by cases h)
  have CN := Lib.hid (new_any (Own.St.start w))
  clear hkc
  go_enter Try.func10, Try.ntmps10
  go_wp2_with (fail)
  refine CN.out.mono ?_
  rintro e w1 ⟨p, rfl, h⟩
  have H1 := Lib.hid h
  clear h CN
  go_wp2_with (first
    | (refine Own.wpList_built rfl 35 #[(1, .const (.int .u32 3))] rfl kc.toArray ?_ ?_; · (simp only [List.map_toArray, List.map_cons, List.map_nil, List.toList_toArray]; exact KB.out))
    | (refine wpList_box2 boxy_key rfl rfl rfl (.tmp 2) (.tmp 10) rfl rfl kc (fun _ => rfl) (fun _ => rfl) KL.out KO.out H1.out ?_; intro b2 w2 h; have H2 := Lib.hid h; clear h)
    | (refine wpList_val rfl (Rec.load_key kc KL.out rfl _ (b := b2) (k := 0) (H2.out.boxRange 0 rfl) rfl) ?_))
  refine (CA.out _ H2.out.swap2).mono ?_
  rintro e w3 ⟨rfl, h⟩
  have H3 := Lib.hid h
  clear h CA H2 H1
  go_wp2_with (refine wpList_val rfl (Rec.load_key kc KL.out rfl _ (b := b2) (k := 0) (H3.out.boxRange 1 rfl) rfl) ?_)
  refine (CR.out _ H3.out).mono ?_
  rintro e w4 ⟨rfl, h⟩
  have H4 := Lib.hid h
  clear h CR H3
  go_wp2_with (refine wpList_val rfl (Rec.load_key kc KL.out rfl _ (b := b2) (k := 0) (H4.out.boxRange 1 rfl) rfl) ?_)
  refine (CU1.out _ H4.out).mono ?_
  rintro e w5 ⟨rfl, h⟩
  have H5 := Lib.hid h
  clear h CU1 H4
  go_wp2_with (refine wpList_val rfl (Rec.load_key kc KL.out rfl _ (b := b2) (k := 0) (H5.out.boxRange 1 rfl) rfl) ?_)
  refine (CU2.out _ H5.out).mono ?_
  rintro e w6 ⟨rfl, h⟩
  have H6 := Lib.hid h
  clear h CU2 H5
  go_wp2_with (refine wpList_val rfl (Rec.load_key kc KL.out rfl _ (b := b2) (k := 0) (H6.out.boxRange 1 rfl) rfl) ?_)
  refine (CU3.out _ H6.out).mono ?_
  rintro e w7 ⟨rfl, h⟩
  have H7 := Lib.hid h
  clear h CU3 H6
  go_wp2_with (fail)
  go_ret
  exact ⟨rfl, H7.out.below⟩
end Sto
end Go.Proofs.Ytcfdjoohbicomaa

end
section
namespace Go.Proofs.Ytcfdjoohbicomaa
open Go.RowKit Go.Own Go.Maps
namespace Sto
open Go.StoM Byt
abbrev inAct : InT ActD := inE actC FitA
end Sto
end Go.Proofs.Ytcfdjoohbicomaa

end
section
namespace Go.Proofs.Ytcfdjoohbicomaa
open Go.RowKit Go.Own
namespace Sto
open Go.StoM Byt
def inKy : InT Ky := fun k _ _ cs => cs = kC k ∧ FitK k
def inPl : InT Pl := fun p _ _ cs => cs = pC p ∧ FitP p
theorem wfI {a : Int} (h : (Lit.int .i64 a).wf = true) : i64S a := by
  simp [Lit.wf, IntKind.min, IntKind.max, IntKind.signed, IntKind.bits] at h
  unfold i64S
  omega
theorem opens_ky : Opens Try.prog 35 inKy := by
  intro H enc w fuel cs x h
  obtain ⟨⟨s, u⟩, e, h1, h2⟩ := Rec.opens_key H enc w fuel cs x h
  exact ⟨⟨s, u⟩, e, ⟨h1, h2⟩⟩
theorem opens_pl : Opens Try.prog 37 inPl := by
  intro H enc w fuel cs x h
  obtain ⟨hl, hf⟩ := opens_fields (P := Try.prog) Try.underlying37 h
  rw [show Try.prog.cellsOf 37 = 3 by kernel_rfl] at hl
  obtain ⟨c0, c1, c2, rfl⟩ : ∃ a b c, cs = [a, b, c] := by
    rcases cs with _ | ⟨c0, _ | ⟨c1, _ | ⟨c2, _ | ⟨c3, r⟩⟩⟩⟩
    · simp at hl
    · simp at hl
    · simp at hl
    · exact ⟨c0, c1, c2, rfl⟩
    · simp at hl
  obtain ⟨n0, y0, h0⟩ := hf 0 _ rfl
  obtain ⟨n1, y1, h1⟩ := hf 1 _ rfl
  obtain ⟨n2, y2, h2⟩ := hf 2 _ rfl
  obtain ⟨a0, e0, w0⟩ := opens_int (P := Try.prog) Try.underlying3 H enc w n0 _ y0 h0
  obtain ⟨a1, e1, w1⟩ := opens_int (P := Try.prog) Try.underlying3 H enc w n1 _ y1 h1
  obtain ⟨a2, e2, w2⟩ := opens_int (P := Try.prog) Try.underlying3 H enc w n2 _ y2 h2
  have k1 : Try.prog.cellsOf 3 = 1 := by kernel_rfl
  have e0' : c0 = .int .i64 a0 := by simpa [k1] using e0
  have e1' : c1 = .int .i64 a1 := by simpa [k1] using e1
  have e2' : c2 = .int .i64 a2 := by simpa [k1] using e2
  subst e0' e1' e2'
  exact ⟨⟨a0, a1, a2⟩, rfl, ⟨wfI w0, wfI w1, wfI w2⟩⟩
theorem opens_act : Opens Try.prog 39 inAct := by
  intro H enc w fuel cs x h
  obtain ⟨hl, hf⟩ := opens_fields (P := Try.prog) Try.underlying39 h
  rw [show Try.prog.cellsOf 39 = 37 by kernel_rfl] at hl
  obtain ⟨n0, y0, h0⟩ := hf 0 _ rfl
  obtain ⟨n1, y1, h1⟩ := hf 1 _ rfl
  obtain ⟨n2, y2, h2⟩ := hf 2 _ rfl
  obtain ⟨a0, e0, w0⟩ := opens_int (P := Try.prog) Try.underlying5 H enc w n0 _ y0 h0
  obtain ⟨k, e1, w1⟩ := opens_ky H enc w n1 _ y1 h1
  obtain ⟨p, e2, w2⟩ := opens_pl H enc w n2 _ y2 h2
  have k0 : Try.prog.cellsOf 5 = 1 := by kernel_rfl
  have k1 : Try.prog.cellsOf 35 = 33 := by kernel_rfl
  have k2 : Try.prog.cellsOf 37 = 3 := by kernel_rfl
  have e0' : cs.take 1 = [.int .u8 a0] := by simpa [k0] using e0
  have e1' : (cs.drop 1).take 33 = kC k := by simpa [k0, k1] using e1
  have e2' : (cs.drop 34).take 3 = pC p := by simpa [k0, k1, k2] using e2
  obtain ⟨u0, hu0⟩ := u8_byte w0
  subst hu0
  refine ⟨⟨u0, k, p⟩, ?_, ⟨w1, w2⟩⟩
  show cs = .int .u8 (u0.toNat : Int) :: (kC k ++ pC p)
  rw [List.take_of_length_le (by simp [hl])] at e2'
  rw [← e1', ← e2', ← List.singleton_append, ← e0']
  rw [show cs.drop 34 = (cs.drop 1).drop 33 by rw [List.drop_drop], List.take_append_drop, List.take_append_drop]
end Sto
end Go.Proofs.Ytcfdjoohbicomaa

end
section
namespace Go.Own
open Go.RowKit Go.Maps Go.WideElems
open Go.WideMaps (KeyLaw)
section
variable {P : Program} {kt mt vt : TypeId} {z : Value} {B : Nat} {w0 w : World} {Ps : List Asn} {b n : Nat} {g : Lit → Value}
theorem setBlock_twice (w : World) (b : Nat) (x y : Obj) : ChangeMaps.setBlock (ChangeMaps.setBlock w b x) b y = ChangeMaps.setBlock w b y := by
  simp [ChangeMaps.setBlock]
/-- the steps of m[k] = f(m[k]): each is an update -/
theorem entry_steps {R : Value → Option (DataW Value × List MemPlace)} {es : Array MapEntry} {clock : Nat} (K : KeyLaw P kt) (hmt : P.underlying mt = some (.map kt vt)) (hz : ∀ w, (zeroValue vt).run P w = .ok z w) (hb : w.heap[b]? = some (.map es clock)) (F : Fit P kt R es clock) {kv : Value} {kl : Lit} (hk : keyOf P kt kv = some kl) :
    ∃ (v0 : Value) (st : Nat) (es1 : Array MapEntry) (clock1 : Nat), (Instr.mapEntry mt (.map (some b)) kv).run P w = .ok (.tuple #[v0, goInt st]) (ChangeMaps.setBlock w b (.map es1 clock1)) ∧
      (Instr.mapUpdate mt (.map (some b)) kv v0).run P w = .ok () (ChangeMaps.setBlock w b (.map es1 clock1)) ∧
      (Instr.lookup mt (.map (some b)) kv false).run P w = .ok v0 w ∧
      ∀ val : Value, ∃ w2, (Instr.entryStore mt (.map (some b)) (goInt st) val).run P (ChangeMaps.setBlock w b (.map es1 clock1)) = .ok () w2 ∧ (Instr.mapUpdate mt (.map (some b)) kv val).run P w = .ok () w2 := by
  obtain ⟨v0, st, es1, clock1, h1, h2, h3⟩ := entry_then_store K hmt hz hb F hk
  have hlt : b < w.heap.size := lt_of_block hb
  have hb1 : (ChangeMaps.setBlock w b (.map es1 clock1)).heap[b]? = some (.map es1 clock1) := by simp [ChangeMaps.setBlock, hlt]
  have h4 : ∀ val : Value, ∃ w2, (Instr.entryStore mt (.map (some b)) (goInt st) val).run P (ChangeMaps.setBlock w b (.map es1 clock1)) = .ok () w2 ∧ (Instr.mapUpdate mt (.map (some b)) kv val).run P w = .ok () w2 := by
    intro val
    obtain ⟨es', clock', g1, g2⟩ := h3 _ val hb1
    rw [setBlock_twice] at g1
    exact ⟨_, g1, g2⟩
  refine ⟨v0, st, es1, clock1, h1, ?_, ?_, h4⟩
  · rcases K.find w hk es.toList F.keys with ⟨q1, q2⟩ | ⟨j, e0, q1, q2, q3⟩
    · have e1 : (Instr.mapEntry mt (.map (some b)) kv).run P w = .ok (.tuple #[z, goInt clock]) (ChangeMaps.setBlock w b (.map (es.push ⟨kv, z, clock⟩) (clock + 1))) := by
        simp [Instr.mapEntry, run_underlying hmt, MapKept.run_getObj_map hb, K.check w false hk, q1, hz, MapKept.run_setObj_map _ hb, Result.andThen, ChangeMaps.setBlock]
      rw [e1] at h1
      injection h1 with a1 a2
      have a3 : v0 = z := by simp at a1; exact a1.1.symm
      rw [← a2, a3]
      simp [Instr.mapUpdate, run_underlying hmt, MapKept.run_getObj_map hb, K.check w false hk, q1, MapKept.run_setObj_map _ hb, Result.andThen, ChangeMaps.setBlock]
    · have hj : es[j]? = some e0 := by simpa using q2
      have hsame : es.modify j (fun e => { e with key := kv }) = es := by
        apply Array.ext'
        rw [Array.toList_modify, ChangeMaps.modify_eq_set _ _ _ _ q2]
        have : ({ e0 with key := kv } : MapEntry) = e0 := by rw [← q3]
        rw [this]
        exact set_self _ _ _ q2
      have hsame2 : es.modify j (fun e' => { e' with key := kv, val := e0.val }) = es := by
        apply Array.ext'
        rw [Array.toList_modify, ChangeMaps.modify_eq_set _ _ _ _ q2]
        have : ({ e0 with key := kv, val := e0.val } : MapEntry) = e0 := by rw [← q3]
        rw [this]
        exact set_self _ _ _ q2
      have e1 : (Instr.mapEntry mt (.map (some b)) kv).run P w = .ok (.tuple #[e0.val, goInt e0.born]) (ChangeMaps.setBlock w b (.map es clock)) := by
        simp [Instr.mapEntry, run_underlying hmt, MapKept.run_getObj_map hb, K.check w false hk, q1, hj, q3, K.stays w hk, hsame, MapKept.run_setObj_map _ hb, Result.andThen, ChangeMaps.setBlock]
      rw [e1] at h1
      injection h1 with a1 a2
      have a3 : v0 = e0.val := by simp at a1; exact a1.1.symm
      rw [← a2, a3]
      have := hsame2
      simp [Instr.mapUpdate, run_underlying hmt, MapKept.run_getObj_map hb, K.check w false hk, q1, hj, q3, K.stays w hk, hsame2, MapKept.run_setObj_map _ hb, Result.andThen, ChangeMaps.setBlock]
  · rcases K.find w hk es.toList F.keys with ⟨q1, q2⟩ | ⟨j, e0, q1, q2, q3⟩
    · have a3 : v0 = z := by
        rcases h2 with ⟨e0, g1, g2, _⟩ | ⟨_, g⟩
        · exact absurd g2 (q2 _ g1)
        · exact g
      rw [a3]
      simp [Instr.lookup, run_underlying hmt, MapKept.run_getObj_map hb, K.check w es.isEmpty hk, q1, hz, Result.andThen]
    · have hj : es[j]? = some e0 := by simpa using q2
      have a3 : v0 = e0.val := by
        rcases h2 with ⟨e', g1, g2, g3⟩ | ⟨g, _⟩
        · rw [g3, entry_eq_of_key (List.pairwise_map.1 F.stamped.2.2) g1 (List.mem_of_getElem? q2) (by rw [g2, q3])]
        · exact absurd q3 (g _ (List.mem_of_getElem? q2))
      rw [a3]
      simp [Instr.lookup, run_underlying hmt, MapKept.run_getObj_map hb, K.check w es.isEmpty hk, q1, Result.andThen]
/-- m[k] = f(m[k]) on a map of one's own: in between the map reads as it read -/
theorem St.mapBump (H : St B w0 w Ps) (i : Nat) (hi : Ps[i]? = some (AMap P kt z b n g)) (K : KeyLaw P kt) (hmt : P.underlying mt = some (.map kt vt)) (hz : ∀ w, (zeroValue vt).run P w = .ok z w) (hn : n < 1000000000) {kv : Value} {kl : Lit} (hk : keyOf P kt kv = some kl) (v : Value) :
    ∃ (st : Nat) (w1 w2 : World), (Instr.mapEntry mt (.map (some b)) kv).run P w = .ok (.tuple #[g kl, goInt st]) w1 ∧ St B w0 w1 (Ps.set i (AMap P kt z b (n + 1) (putK g kl (g kl)))) ∧
      (Instr.entryStore mt (.map (some b)) (goInt st) v).run P w1 = .ok () w2 ∧ St B w0 w2 (Ps.set i (AMap P kt z b (n + 1) (putK g kl v))) := by
  have hlook := H.mapLook i hi (Keyed.of_law K) hmt hz hk
  obtain ⟨S, ⟨⟨D, hm, h1⟩, h5⟩, _⟩ := H.at i hi
  obtain ⟨es, clock, hb, F, hs, _⟩ := hm
  obtain ⟨v0, st, es1, clock1, e1, e2, e3, e4⟩ := entry_steps K hmt hz hb F hk
  obtain ⟨w2, e5, e6⟩ := e4 v
  rw [e3] at hlook
  injection hlook with a1 _
  subst a1
  obtain ⟨wa, ra, ha⟩ := H.mapPut i hi (Keyed.of_law K) hmt hn hk (g kl)
  obtain ⟨wb, rb, hb2⟩ := H.mapPut i hi (Keyed.of_law K) hmt hn hk v
  rw [e2] at ra
  rw [e6] at rb
  injection ra with _ ra
  injection rb with _ rb
  subst ra rb
  exact ⟨st, _, _, e1, ha, e5, hb2⟩
end
end Go.Own
namespace Go.Proofs.Ytcfdjoohbicomaa
open Go.RowKit Go.Own Go.Maps
namespace Sto
open Go.StoM Byt
theorem one_key {l : List Ch} (hs : Sorted l) {c d : Ch} (hc : c ∈ l) (hd : d ∈ l) (h : c.key = d.key) : c = d := by
  have h1 := (at_iff hs (k := d.key)).2 ⟨d, hd, rfl⟩
  have hp := List.pairwise_iff_getElem.1 hs
  obtain ⟨i, hi, rfl⟩ := List.mem_iff_getElem.1 hc
  obtain ⟨j, hj, rfl⟩ := List.mem_iff_getElem.1 hd
  by_cases e : i = j
  · subst e; rfl
  · rcases Nat.lt_or_gt_of_ne e with g | g
    · have := hp i j hi hj g
      simp [h, less_irrefl] at this
    · have := hp j i hj hi g
      simp [h, less_irrefl] at this
theorem getS_of {l : List Ch} (hs : Sorted l) {c : Ch} (hc : c ∈ l) : getS l c.key = c := by
  have h1 := (at_iff hs (k := c.key)).2 ⟨c, hc, rfl⟩
  rw [getS_at h1]
  exact one_key hs (at_mem h1).1 hc (at_mem h1).2
theorem getS_none {l : List Ch} {k : Ky} (h : isAt l k = false) : getS l k = zeroCh := by unfold getS; rw [h]; rfl
theorem is_putS {l : List Ch} (ok : Ok l) (c : Ch) (k : Ky) : isAt (putS l c) k = (decide (k = c.key) || isAt l k) ∧ getS (putS l c) k = if k = c.key then c else getS l k := by
  have hs := sorted_putS ok.sorted c
  by_cases e : k = c.key
  · subst e
    have hm : c ∈ putS l c := (mem_putS ok.sorted).2 (.inr rfl)
    exact ⟨by rw [(at_iff hs).2 ⟨c, hm, rfl⟩]; simp, by rw [if_pos rfl]; exact getS_of hs hm⟩
  · rw [if_neg e]
    cases h : isAt l k
    · have : isAt (putS l c) k = false := by
        cases h2 : isAt (putS l c) k
        · rfl
        · obtain ⟨d, hd, rfl⟩ := (at_iff hs).1 h2
          rcases (mem_putS ok.sorted).1 hd with g | g
          · rw [(at_iff ok.sorted).2 ⟨d, g.1, rfl⟩] at h
            cases h
          · rw [g] at e; exact absurd rfl e
      rw [this, getS_none this, getS_none h]
      simp [e]
    · obtain ⟨d, hd, rfl⟩ := (at_iff ok.sorted).1 h
      have hm : d ∈ putS l c := (mem_putS ok.sorted).2 (.inl ⟨hd, e⟩)
      rw [(at_iff hs).2 ⟨d, hm, rfl⟩, getS_of hs hm, getS_of ok.sorted hd]
      simp
theorem is_erase {l : List Ch} (ok : Ok l) {q : Ky} (hq : isAt l q = true) (k : Ky) : isAt (l.eraseIdx (posK q l)) k = (!decide (k = q) && isAt l k) ∧ getS (l.eraseIdx (posK q l)) k = if k = q then zeroCh else getS l k := by
  have hs := sorted_erase ok.sorted (posK q l)
  by_cases e : k = q
  · subst e
    have : isAt (l.eraseIdx (posK k l)) k = false := by
      cases h2 : isAt (l.eraseIdx (posK k l)) k
      · rfl
      · obtain ⟨d, hd, e⟩ := (at_iff hs).1 h2
        exact absurd e ((mem_erase ok.sorted hq).1 hd).2
    rw [this, getS_none this, if_pos rfl]
    simp
  · rw [if_neg e]
    cases h : isAt l k
    · have : isAt (l.eraseIdx (posK q l)) k = false := by
        cases h2 : isAt (l.eraseIdx (posK q l)) k
        · rfl
        · obtain ⟨d, hd, rfl⟩ := (at_iff hs).1 h2
          rw [(at_iff ok.sorted).2 ⟨d, ((mem_erase ok.sorted hq).1 hd).1, rfl⟩] at h
          cases h
      rw [this, getS_none this, getS_none h]
      simp
    · obtain ⟨d, hd, rfl⟩ := (at_iff ok.sorted).1 h
      have hm : d ∈ l.eraseIdx (posK q l) := (mem_erase ok.sorted hq).2 ⟨hd, e⟩
      rw [(at_iff hs).2 ⟨d, hm, rfl⟩, getS_of hs hm, getS_of ok.sorted hd]
      simp [e]
/-- a key's number behind an act -/
def refsA (r : Int) (kd : Nat) : Int := if kd = 0 then (if r = 0 then 1 else r) else if kd = 1 then (if r > 0 then r + 1 else r) else if kd = 2 then (if r > 0 then r - 1 else r) else r
def okA (r : Int) (kd : Nat) : Bool := if kd = 0 then decide (r = 0) else decide (r > 0)
structure Refs (l : List Ch) (a : ActD) : Prop where
  same : (getS (doAct l a).1 a.k).refs = refsA (getS l a.k).refs (a.kind.toNat % 4)
  is : isAt (doAct l a).1 a.k = decide (refsA (getS l a.k).refs (a.kind.toNat % 4) > 0)
  other : ∀ k, k ≠ a.k → getS (doAct l a).1 k = getS l k
  gone : (doAct l a).2.1 = (decide (a.kind.toNat % 4 = 2) && decide ((getS l a.k).refs = 1))
  err : decide ((doAct l a).2.2 = 0) = okA (getS l a.k).refs (a.kind.toNat % 4)
theorem refs_act {l : List Ch} {N : Nat} (ok : Ok l) (lim : Lim l N) (a : ActD) (fa : FitA a) : Refs l a := by
  obtain ⟨r, hr⟩ : ∃ r, r = a.kind.toNat % 4 := ⟨_, rfl⟩
  have hr4 : r < 4 := by omega
  cases hk : isAt l a.k
  · have hz : (getS l a.k).refs = 0 := by rw [getS_none hk]; rfl
    match r, hr, hr4 with
    | 0, hr, _ =>
      have e : doAct l a = (putS l ⟨a.k, a.p, 1⟩, false, 0) := by unfold doAct; rw [← hr]; show (_, _, _) = _; rw [addS_fst, addS_snd, hk]; rfl
      have hp := fun k => is_putS ok ⟨a.k, a.p, 1⟩ k
      refine ⟨?_, ?_, fun k hne => ?_, ?_, ?_⟩
      · rw [e, ← hr, hz]; show (getS (putS l _) a.k).refs = _; rw [(hp a.k).2, if_pos rfl]; rfl
      · rw [e, ← hr, hz]; show isAt (putS l _) a.k = _; rw [(hp a.k).1]; simp [refsA]
      · rw [e]; show getS (putS l _) k = _; rw [(hp k).2, if_neg hne]
      · rw [e, ← hr]; rfl
      · rw [e, ← hr, hz]; rfl
    | 1, hr, _ =>
      have e : doAct l a = (l, false, 2) := by unfold doAct; rw [← hr]; show (_, _, _) = _; rw [refS_no hk]
      refine ⟨?_, ?_, fun k hne => ?_, ?_, ?_⟩ <;> rw [e] <;> (try rw [← hr]) <;> (try rw [hz]) <;> (try rfl)
      · show isAt l a.k = _; rw [hk]; rfl
    | 2, hr, _ =>
      have e : doAct l a = (l, false, 2) := by unfold doAct; rw [← hr]; show unrefS l a.k = _; rw [unrefS_no hk]
      refine ⟨?_, ?_, fun k hne => ?_, ?_, ?_⟩ <;> rw [e] <;> (try rw [← hr]) <;> (try rw [hz]) <;> (try rfl)
      · show isAt l a.k = _; rw [hk]; rfl
    | 3, hr, _ =>
      have e : doAct l a = (l, false, 2) := by unfold doAct; rw [← hr]; show (_, _, _) = _; rw [moveS_no hk]
      refine ⟨?_, ?_, fun k hne => ?_, ?_, ?_⟩ <;> rw [e] <;> (try rw [← hr]) <;> (try rw [hz]) <;> (try rfl)
      · show isAt l a.k = _; rw [hk]; rfl
  · have h1 : 1 ≤ (getS l a.k).refs := (get_lim lim hk).1
    have hgk := get_key hk
    obtain ⟨x, hx⟩ : ∃ x, x = (getS l a.k).refs := ⟨_, rfl⟩
    rw [← hx] at h1
    match r, hr, hr4 with
    | 0, hr, _ =>
      have e : doAct l a = (l, false, 3) := by unfold doAct; rw [← hr]; show (_, _, _) = _; rw [addS_fst, addS_snd, hk]; rfl
      refine ⟨?_, ?_, fun k hne => ?_, ?_, ?_⟩ <;> rw [e] <;> (try rw [← hr]) <;> (try rw [← hx]) <;> (try rfl)
      · show x = _; unfold refsA; rw [if_pos rfl, if_neg (by omega)]
      · show isAt l a.k = _; rw [hk]; unfold refsA; rw [if_pos rfl, if_neg (by omega)]; exact (decide_eq_true (by omega)).symm
      · unfold okA; rw [if_pos rfl]; show false = _; exact (decide_eq_false (by omega)).symm
    | 1, hr, _ =>
      have e : doAct l a = (putS l (wR (getS l a.k) (x + 1)), false, 0) := by unfold doAct; rw [← hr]; show (_, _, _) = _; rw [refS_yes hk, ← hx]
      have hp := fun k => is_putS ok (wR (getS l a.k) (x + 1)) k
      have hkk : (wR (getS l a.k) (x + 1)).key = a.k := hgk
      refine ⟨?_, ?_, fun k hne => ?_, ?_, ?_⟩
      · rw [e, ← hr, ← hx]; show (getS (putS l _) a.k).refs = _; rw [(hp a.k).2, hkk, if_pos rfl]; unfold refsA; rw [if_neg (by omega), if_pos rfl, if_pos (by omega)]; rfl
      · rw [e, ← hr, ← hx]; show isAt (putS l _) a.k = _; rw [(hp a.k).1, hk, Bool.or_true]; unfold refsA; rw [if_neg (by omega), if_pos rfl, if_pos (by omega)]; exact (decide_eq_true (by omega)).symm
      · rw [e]; show getS (putS l _) k = _; rw [(hp k).2, hkk, if_neg hne]
      · rw [e, ← hr]; rfl
      · rw [e, ← hr, ← hx]; unfold okA; rw [if_neg (by omega)]; show true = _; exact (decide_eq_true (by omega)).symm
    | 2, hr, _ =>
      by_cases hm : x - 1 > 0
      · have e : doAct l a = (putS l (wR (getS l a.k) (x - 1)), false, 0) := by unfold doAct; rw [← hr]; show unrefS l a.k = _; rw [unrefS_more hk (by rw [← hx]; exact hm), ← hx]
        have hp := fun k => is_putS ok (wR (getS l a.k) (x - 1)) k
        have hkk : (wR (getS l a.k) (x - 1)).key = a.k := hgk
        refine ⟨?_, ?_, fun k hne => ?_, ?_, ?_⟩
        · rw [e, ← hr, ← hx]; show (getS (putS l _) a.k).refs = _; rw [(hp a.k).2, hkk, if_pos rfl]; unfold refsA; rw [if_neg (by omega), if_neg (by omega), if_pos rfl, if_pos (by omega)]; rfl
        · rw [e, ← hr, ← hx]; show isAt (putS l _) a.k = _; rw [(hp a.k).1, hk, Bool.or_true]; unfold refsA; rw [if_neg (by omega), if_neg (by omega), if_pos rfl, if_pos (by omega)]; exact (decide_eq_true (by omega)).symm
        · rw [e]; show getS (putS l _) k = _; rw [(hp k).2, hkk, if_neg hne]
        · rw [e, ← hr, ← hx]; show false = (true && _); exact (decide_eq_false (by omega)).symm
        · rw [e, ← hr, ← hx]; unfold okA; rw [if_neg (by omega)]; show true = _; exact (decide_eq_true (by omega)).symm
      · have e : doAct l a = (l.eraseIdx (posK a.k l), true, 0) := by unfold doAct; rw [← hr]; show unrefS l a.k = _; rw [unrefS_last hk (by rw [← hx]; exact hm)]
        have hp := fun k => is_erase ok hk k
        have h11 : x = 1 := by omega
        refine ⟨?_, ?_, fun k hne => ?_, ?_, ?_⟩
        · rw [e, ← hr, ← hx, h11]; show (getS (l.eraseIdx _) a.k).refs = _; rw [(hp a.k).2, if_pos rfl]; rfl
        · rw [e, ← hr, ← hx, h11]; show isAt (l.eraseIdx _) a.k = _; rw [(hp a.k).1]; simp [refsA]
        · rw [e]; show getS (l.eraseIdx _) k = _; rw [(hp k).2, if_neg hne]
        · rw [e, ← hr, ← hx, h11]; rfl
        · rw [e, ← hr, ← hx, h11]; rfl
    | 3, hr, _ =>
      have e : doAct l a = (putS l (wP (getS l a.k) a.p), false, 0) := by unfold doAct; rw [← hr]; show (_, _, _) = _; rw [moveS_yes hk]
      have hp := fun k => is_putS ok (wP (getS l a.k) a.p) k
      have hkk : (wP (getS l a.k) a.p).key = a.k := hgk
      refine ⟨?_, ?_, fun k hne => ?_, ?_, ?_⟩
      · rw [e, ← hr, ← hx]; show (getS (putS l _) a.k).refs = _; rw [(hp a.k).2, hkk, if_pos rfl]; show (getS l a.k).refs = _; rw [← hx]; rfl
      · rw [e, ← hr, ← hx]; show isAt (putS l _) a.k = _; rw [(hp a.k).1, hk, Bool.or_true]; show true = decide (x > 0); exact (decide_eq_true (by omega)).symm
      · rw [e]; show getS (putS l _) k = _; rw [(hp k).2, hkk, if_neg hne]
      · rw [e, ← hr]; rfl
      · rw [e, ← hr, ← hx]; show true = decide (x > 0); exact (decide_eq_true (by omega)).symm
end Sto
end Go.Proofs.Ytcfdjoohbicomaa

end
