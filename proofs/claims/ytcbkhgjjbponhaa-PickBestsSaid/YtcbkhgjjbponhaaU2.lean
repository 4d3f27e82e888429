/- Merged: PicR PicRb PicRc PicQ Acts PicS PicT -/
import Derived.Great.Walk
import Derived.Test.YtcbkhgjjbponhaaU1
set_option linter.unusedVariables false
section
namespace Go.Proofs.Ytcbkhgjjbponhaa
open Go.RowKit Go.Own
namespace Pic
open Go.PicM Byt
abbrev ptr (p : Nat) : Value := .pointer (some ⟨p, 0, none⟩)
def cC (c : Cn) : List Value := [.int .i64 c.seg, .int .i64 c.live, .int .i64 c.pages, .int .u64 (c.age : Int)]
def cV (c : Cn) : Value := .agg (cC c).toArray
theorem cC_len (c : Cn) : (cC c).length = 4 := rfl
theorem cC_one (c : Cn) : ∀ u ∈ cC c, u.oneCell' = true := by
  intro u hu
  simp only [cC, List.mem_cons, List.not_mem_nil, or_false] at hu
  rcases hu with rfl | rfl | rfl | rfl <;> rfl
theorem info_cn (cs : List Value) (h : cs.length = 4) : (Try.prog.info? 24).map (·.size) = some cs.length := by
  have h0 : (Try.prog.info? 24).map (fun i => i.size) = some 4 := by kernel_rfl
  rw [h]; exact h0
theorem load_cn (cs : List Value) (hl : cs.length = 4) {o : Oper} {x : Tmp} (ho : o.op = .load 24 (.tmp x)) {b k : Nat} (ρ : Operand → Value) {w : World} (hr : w.rangeAt b k cs) (h0 : ρ (.tmp x) = .pointer (some ⟨b, k, none⟩)) : (execOp ρ o).run Try.prog w = .ok (.value (.agg cs.toArray)) w := by
  have := run_loadAt_mid (P := Try.prog) w b k 24 cs _ hr Try.underlying24 rfl (info_cn cs hl)
  unfold execOp
  simp only [ho, h0, Sem.run_bind, this, Result.andThen_ok, Sem.run_pure]
theorem add1c {o : Oper} {t : Tmp} (ho : o.op = .binOp .add 3 (.tmp t) (.const (.int .i64 1)) 3) {k : Nat} (hk : k ≤ 1000000) (ρ : Operand → Value) (w : World) (h0 : ρ (.tmp t) = .int .i64 (k : Int)) (hc : ∀ c, ρ (.const c) = c) : (execOp ρ o).run Try.prog w = .ok (.value (.int .i64 ((k + 1 : Nat) : Int))) w := by
  have e : IntKind.i64.wrap ((k : Int) + 1) = ((k + 1 : Nat) : Int) := by rw [IntWalk.i64_in _ (by omega)]; rfl
  simp [execOp, ho, h0, hc, go_sem, e]
theorem convc {o : Oper} {t : Tmp} (ho : o.op = .convert 3 22 (.tmp t)) {k : Nat} (hk : k ≤ 1000000) (ρ : Operand → Value) (w : World) (h0 : ρ (.tmp t) = .int .i64 (k : Int)) : (execOp ρ o).run Try.prog w = .ok (.value (.int .u64 (k : Int))) w := by
  have e : IntKind.u64.wrap (k : Int) = (k : Int) := by
    have : IntKind.u64.wrap (k : Int) = (k : Int) % 18446744073709551616 := by simp [IntKind.wrap, IntKind.bits, IntKind.signed]
    rw [this]
    omega
  have h1 := Try.underlying3
  have h2 := Try.underlying22
  simp [execOp, ho, h0, go_sem, h1, h2, e]
theorem mulc {o : Oper} {x y : Tmp} (ho : o.op = .binOp .mul 22 (.tmp x) (.tmp y) 22) {a b c : Nat} (hc : c = a * b) (hb : c < 18446744073709551616) (ρ : Operand → Value) (w : World) (h0 : ρ (.tmp x) = .int .u64 (a : Int)) (h1 : ρ (.tmp y) = .int .u64 (b : Int)) : (execOp ρ o).run Try.prog w = .ok (.value (.int .u64 (c : Int))) w := by
  have e : IntKind.u64.wrap ((a : Int) * (b : Int)) = (c : Int) := by
    have : IntKind.u64.wrap ((a : Int) * (b : Int)) = ((a : Int) * (b : Int)) % 18446744073709551616 := by simp [IntKind.wrap, IntKind.bits, IntKind.signed]
    rw [this, ← Int.natCast_mul, ← hc]
    omega
  simp [execOp, ho, h0, h1, go_sem, e]
section
set_option maxHeartbeats 1600000 in
theorem rightR_any (c : Cn) (w : World) : Calls Try.prog 11 #[cV c] w fun e w' => e = .returned (.bool (right c)) ∧ Below w.heap.size w w' := by
  have hbox := (Own.St.start w).boxV 24 (cC c)
  have c1 := (hbox.cellV 0 rfl 1 rfl).1
  have c2 := (hbox.cellV 0 rfl 2 rfl).1
  have HB := Lib.hid hbox.below
  obtain ⟨x, hx⟩ : ∃ x, x = right c := ⟨_, rfl⟩
  rw [← hx]
  unfold right at hx
  obtain ⟨pg, hpg⟩ : ∃ x, x = c.pages := ⟨_, rfl⟩
  obtain ⟨lv, hlv⟩ : ∃ x, x = c.live := ⟨_, rfl⟩
  rw [← hpg, ← hlv] at hx
  obtain ⟨cs, hcs⟩ : ∃ x, x = cC c := ⟨_, rfl⟩
  have C1 : Hid ((w.alloc (.cells cs.toArray 24)).cell? ⟨w.heap.size, 1, none⟩ = some (.int .i64 lv)) := by rw [hcs, hlv]; exact c1
  have C2 : Hid ((w.alloc (.cells cs.toArray 24)).cell? ⟨w.heap.size, 2, none⟩ = some (.int .i64 pg)) := by rw [hcs, hpg]; exact c2
  show Calls Try.prog _ #[.agg (cC c).toArray] w _
  have HBB : Hid (Below w.heap.size w (w.alloc (.cells cs.toArray 24))) := by rw [hcs]; exact HB.out
  rw [← hcs]
  have d1 := C1.out
  have d2 := C2.out
  clear c1 c2 hbox hcs hpg hlv HB C1 C2
  by_cases h1 : pg ≥ 1
  · by_cases h2 : pg ≤ 64
    · by_cases h3 : lv ≥ 0
      · by_cases h4 : lv ≤ pg
        · rw [decide_eq_true (show 1 ≤ pg from h1), decide_eq_true h2, decide_eq_true (show 0 ≤ lv from h3), decide_eq_true h4] at hx
          subst hx
          go_enter Try.func11, Try.ntmps11
          go_wp2_with (fail)
          go_ret
          exact ⟨rfl, HBB.out⟩
        · rw [decide_eq_false h4] at hx
          simp only [Bool.and_false] at hx
          subst hx
          go_enter Try.func11, Try.ntmps11
          go_wp2_with (fail)
          go_ret
          exact ⟨rfl, HBB.out⟩
      · rw [decide_eq_false (show ¬ 0 ≤ lv from h3)] at hx
        simp only [Bool.and_false, Bool.false_and] at hx
        subst hx
        go_enter Try.func11, Try.ntmps11
        go_wp2_with (fail)
        go_ret
        exact ⟨rfl, HBB.out⟩
    · rw [decide_eq_false h2] at hx
      simp only [Bool.and_false, Bool.false_and] at hx
      subst hx
      go_enter Try.func11, Try.ntmps11
      go_wp2_with (fail)
      go_ret
      exact ⟨rfl, HBB.out⟩
  · rw [decide_eq_false (show ¬ 1 ≤ pg from h1)] at hx
    simp only [Bool.false_and] at hx
    subst hx
    go_enter Try.func11, Try.ntmps11
    go_wp2_with (fail)
    go_ret
    exact ⟨rfl, HBB.out⟩
set_option maxHeartbeats 1600000 in
theorem gainsR_any (c : Cn) (w : World) : Calls Try.prog 13 #[cV c] w fun e w' => e = .returned (.bool (gains c)) ∧ Below w.heap.size w w' := by
  have hbox := (Own.St.start w).boxV 24 (cC c)
  obtain ⟨cs, hcs⟩ : ∃ x, x = cC c := ⟨_, rfl⟩
  obtain ⟨w1, hw1⟩ : ∃ x, x = w.alloc (.cells cs.toArray 24) := ⟨_, rfl⟩
  have hb1 : Own.St w.heap.size w w1 [AVals w.heap.size 24 cs] := by rw [hw1, hcs]; exact hbox
  have CL : Hid (cs.length = 4) := by show _ = _; rw [hcs]; rfl
  have CR : Hid (Calls Try.prog 11 #[.agg cs.toArray] w1 fun e w' => e = .returned (.bool (right c)) ∧ Below w1.heap.size w1 w') := by rw [hcs]; exact rightR_any c w1
  obtain ⟨pg, hpg⟩ : ∃ x, x = c.pages := ⟨_, rfl⟩
  obtain ⟨lv, hlv⟩ : ∃ x, x = c.live := ⟨_, rfl⟩
  have K1 : Hid (cs[1]? = some (.int .i64 lv)) := by show _ = _; rw [hcs, hlv]; rfl
  have K2 : Hid (cs[2]? = some (.int .i64 pg)) := by show _ = _; rw [hcs, hpg]; rfl
  obtain ⟨r, hr⟩ : ∃ x, x = right c := ⟨_, rfl⟩
  obtain ⟨x, hx⟩ : ∃ x, x = gains c := ⟨_, rfl⟩
  unfold gains at hx
  show Calls Try.prog _ #[.agg (cC c).toArray] w fun e w' => e = .returned (.bool (right c && decide (c.live < c.pages))) ∧ _
  rw [← hx, ← hcs]
  rw [← hr] at CR hx
  rw [← hpg, ← hlv] at hx
  have H1 := Lib.hid hb1
  have HW1 := Lib.hid hw1
  clear hbox hcs hw1 hb1 hr hpg hlv
  cases r
  · simp only [Bool.false_and] at hx
    subst hx
    go_enter Try.func13, Try.ntmps13
    go_wp2_with (refine wpList_val rfl (load_cn cs CL.out rfl _ (b := w.heap.size) (k := 0) (by rw [← HW1.out]; exact H1.out.boxRange 0 rfl) rfl) ?_)
    rw [← HW1.out]
    refine CR.out.mono ?_
    rintro e w2 ⟨rfl, h⟩
    have H2 := Lib.hid (H1.out.later h)
    clear h
    go_wp2_with (fail)
    go_ret
    exact ⟨rfl, H2.out.below⟩
  · simp only [Bool.true_and] at hx
    by_cases hlt : lv < pg
    · rw [decide_eq_true hlt] at hx
      subst hx
      go_enter Try.func13, Try.ntmps13
      go_wp2_with (refine wpList_val rfl (load_cn cs CL.out rfl _ (b := w.heap.size) (k := 0) (by rw [← HW1.out]; exact H1.out.boxRange 0 rfl) rfl) ?_)
      rw [← HW1.out]
      refine CR.out.mono ?_
      rintro e w2 ⟨rfl, h⟩
      have H2 := Lib.hid (H1.out.later h)
      have d1 := (H2.out.cellV 0 rfl 1 K1.out).1
      have d2 := (H2.out.cellV 0 rfl 2 K2.out).1
      clear h
      go_wp2_with (fail)
      go_ret
      exact ⟨rfl, H2.out.below⟩
    · rw [decide_eq_false hlt] at hx
      subst hx
      go_enter Try.func13, Try.ntmps13
      go_wp2_with (refine wpList_val rfl (load_cn cs CL.out rfl _ (b := w.heap.size) (k := 0) (by rw [← HW1.out]; exact H1.out.boxRange 0 rfl) rfl) ?_)
      rw [← HW1.out]
      refine CR.out.mono ?_
      rintro e w2 ⟨rfl, h⟩
      have H2 := Lib.hid (H1.out.later h)
      have d1 := (H2.out.cellV 0 rfl 1 K1.out).1
      have d2 := (H2.out.cellV 0 rfl 2 K2.out).1
      clear h
      go_wp2_with (fail)
      go_ret
      exact ⟨by simp [hlt], H2.out.below⟩
set_option maxHeartbeats 1600000 in
theorem gainR_any (c : Cn) (hg : gains c = true) (w : World) : Calls Try.prog 20 #[cV c] w fun e w' => e = .returned (.int .u64 (gainN c : Int)) ∧ Below w.heap.size w w' := by
  have hi := gains_iff.1 hg
  have hbox := (Own.St.start w).boxV 24 (cC c)
  have c1 := (hbox.cellV 0 rfl 1 rfl).1
  have c2 := (hbox.cellV 0 rfl 2 rfl).1
  have c3 := (hbox.cellV 0 rfl 3 rfl).1
  have HB := Lib.hid hbox.below
  obtain ⟨lv, hlv⟩ : ∃ x : Nat, c.live = (x : Int) := ⟨c.live.toNat, by omega⟩
  obtain ⟨pg, hpg⟩ : ∃ x : Nat, c.pages = (x : Int) := ⟨c.pages.toNat, by omega⟩
  obtain ⟨ag, hag⟩ : ∃ x : Nat, x = c.age := ⟨_, rfl⟩
  obtain ⟨m, hm⟩ : ∃ x : Nat, x = min ag 4294967296 := ⟨_, rfl⟩
  obtain ⟨cs, hcs⟩ : ∃ x, x = cC c := ⟨_, rfl⟩
  rw [hlv] at c1
  rw [hpg] at c2
  rw [← hag] at c3
  have hG : gainN c = (pg - lv) * (m + 1) := by unfold gainN; rw [hlv, hpg, ← hag, ← hm]; congr 1; omega
  show Calls Try.prog _ #[.agg (cC c).toArray] w _
  rw [← hcs] at c1 c2 c3 HB ⊢
  rw [hlv, hpg] at hi
  have hmin : ∀ wx, (Builtin.min_ #[22, 22] 22 #[.int .u64 (ag : Int), .int .u64 4294967296]).run Try.prog wx = .ok (.int .u64 (m : Int)) wx := by
    intro wx
    rw [show (m : Int) = min (ag : Int) 4294967296 by omega]
    simp [Builtin.min_, Builtin.min2, go_sem]
    try omega
  obtain ⟨d, hd⟩ : ∃ x : Nat, x = pg - lv := ⟨_, rfl⟩
  obtain ⟨m1, hm1⟩ : ∃ x : Nat, x = m + 1 := ⟨_, rfl⟩
  obtain ⟨G, hGG⟩ : ∃ x, x = gainN c := ⟨_, rfl⟩
  rw [← hGG]
  rw [hG, ← hd, ← hm1] at hGG
  have e1 : IntKind.i64.wrap ((pg : Int) - (lv : Int)) = (d : Int) := by rw [IntWalk.i64_in _ (by omega)]; omega
  have e0 : (pg : Int) - (lv : Int) = (d : Int) := by omega
  have hGb : G < 18446744073709551616 := by
    have : G ≤ 64 * 4294967297 := by rw [hGG]; exact Nat.mul_le_mul (by omega) (by omega)
    omega
  have e3 : (m : Int) + 1 = (m1 : Int) := by omega
  have e4 : (d : Int) * (m1 : Int) = (G : Int) := by rw [hGG, Int.natCast_mul]
  have hml : m ≤ 4294967296 := by omega
  have HG := Lib.hid hGG
  clear hbox hcs hlv hpg hag hm hd hm1 hG hGG hg
  go_enter Try.func20, Try.ntmps20
  go_wp2_with (fail)
  go_ret
  exact ⟨rfl, HB.out⟩
end
end Pic
end Go.Proofs.Ytcbkhgjjbponhaa

end
section
namespace Go.Proofs.Ytcbkhgjjbponhaa
open Go.RowKit Go.Own
namespace Pic
open Go.PicM Byt
section
set_option maxRecDepth 6000 in
set_option maxHeartbeats 3200000 in
theorem betterR_any (a b : Cn) (w : World) : Calls Try.prog 15 #[cV a, cV b] w fun e w' => e = .returned (.bool (better a b)) ∧ Below w.heap.size w w' := by
  have hbox := ((Own.St.start w).boxV 24 (cC a)).boxV 24 (cC b)
  obtain ⟨ca, hca⟩ : ∃ x, x = cC a := ⟨_, rfl⟩
  obtain ⟨cb, hcb⟩ : ∃ x, x = cC b := ⟨_, rfl⟩
  obtain ⟨b2, hb2⟩ : ∃ x, x = w.heap.size := ⟨_, rfl⟩
  obtain ⟨wa, hwa⟩ : ∃ x, x = w.alloc (.cells ca.toArray 24) := ⟨_, rfl⟩
  obtain ⟨b3, hb3⟩ : ∃ x, x = wa.heap.size := ⟨_, rfl⟩
  obtain ⟨w1, hw1⟩ : ∃ x, x = wa.alloc (.cells cb.toArray 24) := ⟨_, rfl⟩
  have hb1 : Own.St w.heap.size w w1 [AVals b3 24 cb, AVals b2 24 ca] := by rw [hw1, hb3, hwa, hb2, hca, hcb]; exact hbox
  have AL : Hid (ca.length = 4) := by show _ = _; rw [hca]; rfl
  have BL : Hid (cb.length = 4) := by show _ = _; rw [hcb]; rfl
  have DA : Hid (∀ wx, Calls Try.prog 13 #[.agg ca.toArray] wx fun e w' => e = .returned (.bool (gains a)) ∧ Below wx.heap.size wx w') := by rw [hca]; exact fun wx => gainsR_any a wx
  have DB : Hid (∀ wx, Calls Try.prog 13 #[.agg cb.toArray] wx fun e w' => e = .returned (.bool (gains b)) ∧ Below wx.heap.size wx w') := by rw [hcb]; exact fun wx => gainsR_any b wx
  have EA : Hid (gains a = true → ∀ wx, Calls Try.prog 20 #[.agg ca.toArray] wx fun e w' => e = .returned (.int .u64 (gainN a : Int)) ∧ Below wx.heap.size wx w') := by rw [hca]; exact fun h wx => gainR_any a h wx
  have EB : Hid (gains b = true → ∀ wx, Calls Try.prog 20 #[.agg cb.toArray] wx fun e w' => e = .returned (.int .u64 (gainN b : Int)) ∧ Below wx.heap.size wx w') := by rw [hcb]; exact fun h wx => gainR_any b h wx
  have KA1 : Hid (ca[1]? = some (.int .i64 a.live) ∧ ca[0]? = some (.int .i64 a.seg)) := by rw [hca]; exact ⟨rfl, rfl⟩
  have KB1 : Hid (cb[1]? = some (.int .i64 b.live) ∧ cb[0]? = some (.int .i64 b.seg)) := by rw [hcb]; exact ⟨rfl, rfl⟩
  show Calls Try.prog _ #[.agg (cC a).toArray, .agg (cC b).toArray] w _
  rw [← hca, ← hcb]
  obtain ⟨xx, hxx⟩ : ∃ x, x = better a b := ⟨_, rfl⟩
  rw [← hxx]
  have HX := Lib.hid hxx
  obtain ⟨ga, hga⟩ : ∃ x, x = gains a := ⟨_, rfl⟩
  obtain ⟨gb, hgb⟩ : ∃ x, x = gains b := ⟨_, rfl⟩
  rw [← hga] at DA
  rw [← hgb] at DB
  have HGA := Lib.hid hga
  have HGB := Lib.hid hgb
  have H1 := Lib.hid hb1
  have HWA := Lib.hid hwa
  have HB2 := Lib.hid hb2
  have hb3' : b3 = b2 + 1 := by rw [hb3, hwa, hb2]; exact Array.size_push ..
  have HB3 := Lib.hid hb3'
  have HW1 := Lib.hid hw1
  have AR : Hid (∀ wx, Below w1.heap.size w1 wx → wx.rangeAt b2 0 ca) := fun wx hwx => (hb1.later hwx).boxRange 1 rfl
  have BR : Hid (∀ wx, Below w1.heap.size w1 wx → wx.rangeAt b3 0 cb) := fun wx hwx => (hb1.later hwx).boxRange 0 rfl
  clear hbox hca hcb hb2 hwa hb3 hb3' hw1 hb1 hxx hga hgb
  go_enter Try.func15, Try.ntmps15
  go_wp2_with (refine wpList_val rfl (load_cn ca AL.out rfl _ (b := b2) (k := 0) (by rw [← HWA.out, ← HW1.out]; exact AR.out _ (Below.refl _ _)) (by rw [HB2.out]; rfl)) ?_)
  rw [← HWA.out, ← HB2.out, ← HB3.out, ← HW1.out]
  refine (DA.out _).mono ?_
  rintro e w2 ⟨rfl, h2⟩
  have B2 := Lib.hid h2
  clear h2
  cases ga
  · have hx : xx = false := by rw [HX.out]; unfold better; rw [← HGA.out]; rfl
    subst hx
    go_wp2_with (refine wpList_val rfl (load_cn ca AL.out rfl _ (b := b2) (k := 0) (AR.out _ B2.out) rfl) ?_)
    refine (DA.out _).mono ?_
    rintro e w3 ⟨rfl, h3⟩
    have H3 := Lib.hid ((H1.out.later B2.out).later h3)
    clear h3
    go_wp2_with (fail)
    go_ret
    exact ⟨rfl, H3.out.below⟩
  · go_wp2_with (refine wpList_val rfl (load_cn cb BL.out rfl _ (b := b3) (k := 0) (BR.out _ B2.out) rfl) ?_)
    refine (DB.out _).mono ?_
    rintro e w3 ⟨rfl, h3⟩
    have B3 := Lib.hid (B2.out.trans (h3.mono B2.out.size))
    clear h3
    cases gb
    · have hx : xx = true := by rw [HX.out]; exact better_left HGA.out.symm HGB.out.symm
      subst hx
      go_wp2_with (refine wpList_val rfl (load_cn ca AL.out rfl _ (b := b2) (k := 0) (AR.out _ B3.out) rfl) ?_)
      refine (DA.out _).mono ?_
      rintro e w4 ⟨rfl, h4⟩
      have H4 := Lib.hid ((H1.out.later B3.out).later h4)
      clear h4
      go_wp2_with (fail)
      go_ret
      exact ⟨rfl, H4.out.below⟩
    · have hga := HGA.out.symm
      have hgb := HGB.out.symm
      have ia := gains_iff.1 hga
      have ib := gains_iff.1 hgb
      obtain ⟨la, hla0⟩ : ∃ x : Nat, a.live = (x : Int) := ⟨a.live.toNat, by omega⟩
      obtain ⟨lb, hlb0⟩ : ∃ x : Nat, b.live = (x : Int) := ⟨b.live.toNat, by omega⟩
      have hla : la ≤ 1000000 := by omega
      have hlb : lb ≤ 1000000 := by omega
      have hla6 : la ≤ 64 := by omega
      have hlb6 : lb ≤ 64 := by omega
      obtain ⟨la1, hla1⟩ : ∃ x, x = la + 1 := ⟨_, rfl⟩
      obtain ⟨lb1, hlb1⟩ : ∃ x, x = lb + 1 := ⟨_, rfl⟩
      have HLA1 := Lib.hid hla1
      have HLB1 := Lib.hid hlb1
      have gla := gain_le hga
      have glb := gain_le hgb
      have GA0 := Lib.hid (EA.out hga)
      have GB0 := Lib.hid (EB.out hgb)
      have hbth := better_both hga hgb
      have es1 : score a b = gainN a * lb1 := by unfold score; rw [hlb0, hlb1]; congr 1
      have es2 : score b a = gainN b * la1 := by unfold score; rw [hla0, hla1]; congr 1
      obtain ⟨ga, hgaa⟩ : ∃ x, x = gainN a := ⟨_, rfl⟩
      obtain ⟨gb, hgbb⟩ : ∃ x, x = gainN b := ⟨_, rfl⟩
      obtain ⟨xa, hxa0⟩ : ∃ x, x = ga * lb1 := ⟨_, rfl⟩
      obtain ⟨xb, hxb0⟩ : ∃ x, x = gb * la1 := ⟨_, rfl⟩
      rw [es1, es2, ← hgaa, ← hgbb, ← hxa0, ← hxb0] at hbth
      have hxa : xa < 18446744073709551616 := by
        have : xa ≤ 64 * 4294967297 * 65 := by rw [hxa0, hgaa]; exact Nat.mul_le_mul gla (by omega)
        omega
      have hxb : xb < 18446744073709551616 := by
        have : xb ≤ 64 * 4294967297 * 65 := by rw [hxb0, hgbb]; exact Nat.mul_le_mul glb (by omega)
        omega
      have HXA := Lib.hid hxa0
      have HXB := Lib.hid hxb0
      rw [← hgaa] at GA0
      rw [← hgbb] at GB0
      obtain ⟨sa, hsa⟩ : ∃ x, x = a.seg := ⟨_, rfl⟩
      obtain ⟨sb, hsb⟩ : ∃ x, x = b.seg := ⟨_, rfl⟩
      rw [← hsa, ← hsb] at hbth
      have CA : Hid (∀ wx, Below w1.heap.size w1 wx → wx.cell? ⟨b2, 1, none⟩ = some (.int .i64 (la : Int)) ∧ wx.cell? ⟨b2, 0, none⟩ = some (.int .i64 sa)) := by
        intro wx hwx
        have h := H1.out.later hwx
        have k := KA1.out
        rw [hla0, ← hsa] at k
        exact ⟨(h.cellV 1 rfl 1 k.1).1, (h.cellV 1 rfl 0 k.2).1⟩
      have CB : Hid (∀ wx, Below w1.heap.size w1 wx → wx.cell? ⟨b3, 1, none⟩ = some (.int .i64 (lb : Int)) ∧ wx.cell? ⟨b3, 0, none⟩ = some (.int .i64 sb)) := by
        intro wx hwx
        have h := H1.out.later hwx
        have k := KB1.out
        rw [hlb0, ← hsb] at k
        exact ⟨(h.cellV 0 rfl 1 k.1).1, (h.cellV 0 rfl 0 k.2).1⟩
      have HBT := Lib.hid hbth
      have hlb1' : lb1 ≤ 1000000 := by omega
      have hla1' : la1 ≤ 1000000 := by omega
      clear hga hgb ia ib hla0 hlb0 hla1 hlb1 gla glb hbth es1 es2 hgaa hgbb hxa0 hxb0 hsa hsb
      have hlb1 := hlb1'
      have hla1 := hla1'
      have UP3 : Hid (∀ wx, Below w3.heap.size w3 wx → Below w1.heap.size w1 wx) := fun wx h => B3.out.trans (h.mono B3.out.size)
      have R2 : Hid (∀ wx, Below w3.heap.size w3 wx → wx.rangeAt b2 0 ca) := fun wx h => AR.out wx (UP3.out wx h)
      have LB : Hid (∀ wx, Below w3.heap.size w3 wx → wx.cell? ⟨b3, 1, none⟩ = some (.int .i64 (lb : Int))) := fun wx h => (CB.out wx (UP3.out wx h)).1
      have GA : Hid (∀ wx, Below w3.heap.size w3 wx → Calls Try.prog 20 #[.agg ca.toArray] wx fun e w' => e = .returned (.int .u64 (ga : Int)) ∧ Below wx.heap.size wx w') := fun wx _ => GA0.out wx
      go_wp2_with (fail)
      refine wp_lax_list (by kernel_rfl) (by kernel_rfl) (by kernel_rfl) ?_
      refine wpL_run1 (x := .tmp 2) (ptr b2) (.agg ca.toArray) (by kernel_rfl) (by kernel_rfl) (by kernel_rfl) (by kernel_rfl) (by kernel_rfl) (fun wx ρ hwx h0 hc => load_cn ca AL.out rfl ρ (R2.out wx hwx) h0) ?_
      refine wpL_fn (.int .u64 (ga : Int)) [.agg ca.toArray] rfl (by kernel_rfl) (by kernel_rfl) (by kernel_rfl) (by kernel_rfl) (fun _ _ => by simp [go_sem]) (fun wx hwx => GA.out wx hwx) ?_
      refine wpL_run1 (x := .tmp 3) (ptr b3) (.pointer (some ⟨b3, 1, none⟩)) (by kernel_rfl) (by kernel_rfl) (by kernel_rfl) (by kernel_rfl) (by kernel_rfl) (fun wx ρ hwx h0 hc => by simp [go_sem, h0]) ?_
      refine wpL_run1 (x := .tmp 19) (.pointer (some ⟨b3, 1, none⟩)) (.int .i64 (lb : Int)) (by kernel_rfl) (by kernel_rfl) (by kernel_rfl) (by kernel_rfl) (by kernel_rfl) (fun wx ρ hwx h0 hc => by simp [h0, go_sem, LB.out wx hwx]) ?_
      refine wpL_run1 (x := .tmp 20) (.int .i64 (lb : Int)) (.int .i64 (lb1 : Int)) (by kernel_rfl) (by kernel_rfl) (by kernel_rfl) (by kernel_rfl) (by kernel_rfl) (fun wx ρ hwx h0 hc => by rw [HLB1.out]; exact add1c rfl hlb ρ wx h0 hc) ?_
      refine wpL_run1 (x := .tmp 21) (.int .i64 (lb1 : Int)) (.int .u64 (lb1 : Int)) (by kernel_rfl) (by kernel_rfl) (by kernel_rfl) (by kernel_rfl) (by kernel_rfl) (fun wx ρ hwx h0 hc => convc rfl hlb1 ρ wx h0) ?_
      refine wpL_run2 (x := .tmp 18) (y := .tmp 22) (.int .u64 (ga : Int)) (.int .u64 (lb1 : Int)) (.int .u64 (xa : Int)) (by kernel_rfl) (by kernel_rfl) (by kernel_rfl) (by kernel_rfl) (by kernel_rfl) (by kernel_rfl) (fun wx ρ hwx h0 h1 hc => mulc rfl HXA.out hxa ρ wx h0 h1) ?_
      refine wpL_assign (.int .u64 (xa : Int)) rfl (by kernel_rfl) (by kernel_rfl) (by kernel_rfl) (by kernel_rfl) ?_
      refine wpL_end (by kernel_rfl) (fun w4 hw4 => ?_)
      simp only [FinL, setL, List.set_cons_zero, List.set_cons_succ]
      have B4 := Lib.hid (UP3.out w4 hw4)
      clear hw4 R2 LB GA UP3
      have UP4 : Hid (∀ wx, Below w4.heap.size w4 wx → Below w1.heap.size w1 wx) := fun wx h => B4.out.trans (h.mono B4.out.size)
      have R3 : Hid (∀ wx, Below w4.heap.size w4 wx → wx.rangeAt b3 0 cb) := fun wx h => BR.out wx (UP4.out wx h)
      have LA : Hid (∀ wx, Below w4.heap.size w4 wx → wx.cell? ⟨b2, 1, none⟩ = some (.int .i64 (la : Int))) := fun wx h => (CA.out wx (UP4.out wx h)).1
      have GB : Hid (∀ wx, Below w4.heap.size w4 wx → Calls Try.prog 20 #[.agg cb.toArray] wx fun e w' => e = .returned (.int .u64 (gb : Int)) ∧ Below wx.heap.size wx w') := fun wx _ => GB0.out wx
      go_wp2_with (fail)
      refine wp_lax_list (by kernel_rfl) (by kernel_rfl) (by kernel_rfl) ?_
      refine wpL_run1 (x := .tmp 3) (ptr b3) (.agg cb.toArray) (by kernel_rfl) (by kernel_rfl) (by kernel_rfl) (by kernel_rfl) (by kernel_rfl) (fun wx ρ hwx h0 hc => load_cn cb BL.out rfl ρ (R3.out wx hwx) h0) ?_
      refine wpL_fn (.int .u64 (gb : Int)) [.agg cb.toArray] rfl (by kernel_rfl) (by kernel_rfl) (by kernel_rfl) (by kernel_rfl) (fun _ _ => by simp [go_sem]) (fun wx hwx => GB.out wx hwx) ?_
      refine wpL_run1 (x := .tmp 2) (ptr b2) (.pointer (some ⟨b2, 1, none⟩)) (by kernel_rfl) (by kernel_rfl) (by kernel_rfl) (by kernel_rfl) (by kernel_rfl) (fun wx ρ hwx h0 hc => by simp [go_sem, h0]) ?_
      refine wpL_run1 (x := .tmp 26) (.pointer (some ⟨b2, 1, none⟩)) (.int .i64 (la : Int)) (by kernel_rfl) (by kernel_rfl) (by kernel_rfl) (by kernel_rfl) (by kernel_rfl) (fun wx ρ hwx h0 hc => by simp [h0, go_sem, LA.out wx hwx]) ?_
      refine wpL_run1 (x := .tmp 27) (.int .i64 (la : Int)) (.int .i64 (la1 : Int)) (by kernel_rfl) (by kernel_rfl) (by kernel_rfl) (by kernel_rfl) (by kernel_rfl) (fun wx ρ hwx h0 hc => by rw [HLA1.out]; exact add1c rfl hla ρ wx h0 hc) ?_
      refine wpL_run1 (x := .tmp 28) (.int .i64 (la1 : Int)) (.int .u64 (la1 : Int)) (by kernel_rfl) (by kernel_rfl) (by kernel_rfl) (by kernel_rfl) (by kernel_rfl) (fun wx ρ hwx h0 hc => convc rfl hla1 ρ wx h0) ?_
      refine wpL_run2 (x := .tmp 25) (y := .tmp 29) (.int .u64 (gb : Int)) (.int .u64 (la1 : Int)) (.int .u64 (xb : Int)) (by kernel_rfl) (by kernel_rfl) (by kernel_rfl) (by kernel_rfl) (by kernel_rfl) (by kernel_rfl) (fun wx ρ hwx h0 h1 hc => mulc rfl HXB.out hxb ρ wx h0 h1) ?_
      refine wpL_assign (.int .u64 (xb : Int)) rfl (by kernel_rfl) (by kernel_rfl) (by kernel_rfl) (by kernel_rfl) ?_
      refine wpL_end (by kernel_rfl) (fun w5 hw5 => ?_)
      simp only [FinL, setL, List.set_cons_zero, List.set_cons_succ]
      have B5 := Lib.hid (UP4.out w5 hw5)
      have d2 := (CA.out w5 B5.out).2
      have d3 := (CB.out w5 B5.out).2
      have H5 := Lib.hid (H1.out.later B5.out)
      clear hw5 R3 LA GB UP4 CA CB
      have hcase : (xx = true ∧ (xa : Int) > (xb : Int)) ∨ (xx = true ∧ xa = xb ∧ sa < sb) ∨ (xx = false ∧ xa = xb ∧ ¬ sa < sb) ∨ (xx = false ∧ ¬ (xa : Int) > (xb : Int) ∧ xa ≠ xb) := by
        have h := HBT.out
        rw [← HX.out] at h
        cases xx
        · simp only [Bool.false_eq_true, false_iff, not_or, not_and] at h
          by_cases e : xa = xb
          · exact .inr (.inr (.inl ⟨rfl, e, h.2 e⟩))
          · exact .inr (.inr (.inr ⟨rfl, by omega, e⟩))
        · simp only [true_iff] at h
          rcases h with h | h
          · exact .inl ⟨rfl, by omega⟩
          · exact .inr (.inl ⟨rfl, h⟩)
      clear HBT HX HXA HXB
      rcases hcase with ⟨rfl, h1⟩ | ⟨rfl, rfl, h1⟩ | ⟨rfl, rfl, h1⟩ | ⟨rfl, h1, h2⟩
      · go_wp2_with (fail)
        go_ret
        exact ⟨rfl, H5.out.below⟩
      · have h0 : ¬ (xa : Int) > (xa : Int) := by omega
        go_wp2_with (fail)
        go_ret
        exact ⟨by simp, H5.out.below⟩
      · have h0 : ¬ (xa : Int) > (xa : Int) := by omega
        go_wp2_with (fail)
        go_ret
        exact ⟨by simp, H5.out.below⟩
      · have h3 : ((xa : Int) == (xb : Int)) = false := by simp; omega
        go_wp2_with (fail)
        go_ret
        exact ⟨by simp, H5.out.below⟩
end
end Pic
end Go.Proofs.Ytcbkhgjjbponhaa

end
section
namespace Go.Proofs.Ytcbkhgjjbponhaa
open Go.RowKit Go.Own
namespace Pic
open Go.PicM Byt
theorem size_cn : (Try.prog.info? 24).map (·.size) = some 4 := by kernel_rfl
theorem idx_cn {o : Oper} {x y : Tmp} (ho : o.op = .indexAddr 28 (.tmp x) (.tmp y)) {b g n c k : Nat} (hk : k < n) (ρ : Operand → Value) (w : World) (h0 : ρ (.tmp x) = .slice (some ⟨b, g, none⟩) n c) (h1 : ρ (.tmp y) = .int .i64 (k : Int)) : (execOp ρ o).run Try.prog w = .ok (.value (.pointer (some ⟨b, g + k * 4, none⟩))) w := by
  obtain ⟨i, hi, hs⟩ := Option.map_eq_some_iff.1 size_cn
  have h2 : (k : Int) < (n : Int) := by omega
  have hu := Try.underlying28
  simp [execOp, ho, h0, h1, go_sem, h2, hu]
theorem cn_range {L : List Cn} {w : World} {g o : Nat} (h : ∀ j u, (L.flatMap cC)[j]? = some u → w.cell? ⟨g, o + j, none⟩ = some u) {k : Nat} (hk : k < L.length) : w.rangeAt g (o + k * 4) (cC (at_ L k)) := by
  intro j u hu
  have hj : j < 4 := (List.getElem?_eq_some_iff.1 hu).1
  rw [Nat.add_assoc]
  exact h _ u (by rw [flat_at cC 4 L (fun a _ => rfl) k _ (at_get hk) j hj]; exact hu)
section
set_option maxRecDepth 6000 in
set_option maxHeartbeats 6400000 in
theorem bestR_any (L : List Cn) (n : Nat) (v : Value) (w : World) (hl : L.length = n) (hn : n ≤ 1000000) (hr : RdWin w v n (L.flatMap cC)) : Calls Try.prog 17 #[v] w fun e w' => e = .returned (.int .i64 (bestI L)) ∧ Below w.heap.size w w' := by
  obtain ⟨ao, c, rfl, hr⟩ := hr
  obtain ⟨X, hX⟩ : ∃ x, x = bestI L := ⟨_, rfl⟩
  rw [← hX]
  have HX := Lib.hid hX
  have HL := Lib.hid hl
  have HR := Lib.hid hr
  clear hX hl hr
  go_enter Try.func17, Try.ntmps17
  go_wp2
  go_loopw [3] (fun v3 wr => ∃ i : Nat, i ≤ n ∧ v3 = .int .i64 (i : Int) ∧ Below w.heap.size w wr ∧ ∀ j, j < i → isTop L (at_ L j) = false) (fun v3 _ => n - (intOf v3).toNat)
  case atStart => exact ⟨0, Nat.zero_le _, rfl, Below.refl _ _, fun j hj => absurd hj (Nat.not_lt_zero _)⟩
  case round =>
    obtain ⟨i, hin, rfl, hbw, hno⟩ := hrel
    have HB := Lib.hid hbw
    have HNO := Lib.hid hno
    clear hbw hno
    by_cases hi : (i : Int) < (n : Int)
    · have hin2 : i < n := by omega
      rcases HR.out with h | ⟨g, o, rfl, hc⟩
      · omega
      have HC := Lib.hid hc
      clear hc HR
      obtain ⟨ci, hci⟩ : ∃ x, x = cC (at_ L i) := ⟨_, rfl⟩
      have LI : Hid (ci.length = 4) := by show _ = _; rw [hci]; rfl
      have RI0 : Hid (∀ wx, Below w.heap.size w wx → wx.rangeAt g (o + i * 4) ci) := by
        intro wx hwx
        rw [hci]
        exact cn_range (fun j u hu => cellLater' (HC.out j u hu) hwx) (by rw [HL.out]; exact hin2)
      obtain ⟨gi, hgi⟩ : ∃ x, x = gains (at_ L i) := ⟨_, rfl⟩
      have GI : Hid (∀ wx, Calls Try.prog 13 #[.agg ci.toArray] wx fun e w' => e = .returned (.bool gi) ∧ Below wx.heap.size wx w') := by rw [hci, hgi]; exact fun wx => gainsR_any _ wx
      have BI : Hid (∀ (k : Nat) (wx : World), Calls Try.prog 15 #[.agg (cC (at_ L k)).toArray, .agg ci.toArray] wx fun e w' => e = .returned (.bool (better (at_ L k) (at_ L i))) ∧ Below wx.heap.size wx w') := by rw [hci]; exact fun k wx => betterR_any _ _ wx
      have HGI := Lib.hid hgi
      clear hci hgi
      go_wp2_with (first
        | (refine wpList_val rfl (idx_cn rfl (b := g) (g := o) (k := i) (n := n) (c := c) hin2 _ _ rfl rfl) ?_)
        | (refine wpList_val rfl (load_cn ci LI.out rfl _ (b := g) (k := o + i * 4) (RI0.out _ HB.out) rfl) ?_))
      refine (GI.out _).mono ?_
      rintro e w2 ⟨rfl, h2⟩
      have HB2 := Lib.hid (HB.out.trans (h2.mono HB.out.size))
      clear h2 HB GI
      go_wp2_with (fail)
      go_loopw [4, 5] (fun v4 v5 ws => ∃ (k : Nat) (t : Bool), k ≤ n ∧ v5 = .int .i64 (k : Int) ∧ v4 = .bool t ∧ Below w.heap.size w ws ∧ topF L (at_ L i) k = t) (fun _ v5 _ => n - (intOf v5).toNat)
      case atStart => exact ⟨0, gi, Nat.zero_le _, rfl, rfl, HB2.out, HGI.out.symm⟩
      case round =>
        obtain ⟨k, t, hkn0, rfl, rfl, hbw, ht⟩ := hrel
        have HB3 := Lib.hid hbw
        have HT := Lib.hid ht
        clear hbw ht HB2
        by_cases hk : (k : Int) < (n : Int)
        · have hkn : k < n := by omega
          cases t
          · go_wp2_with (fail)
            go_quiet (fail)
            go_wp2_with (fail)
            go_roundw
            case rel => exact ⟨k + 1, false, by omega, by go_num, rfl, (Own.St.start w).later HB3.out |>.drewN nq |>.below, by rw [topF, HT.out]; rfl⟩
            case measure => simp [intOf]; omega
          · obtain ⟨ck, hck⟩ : ∃ x, x = cC (at_ L k) := ⟨_, rfl⟩
            obtain ⟨bt, hbt⟩ : ∃ x, x = better (at_ L k) (at_ L i) := ⟨_, rfl⟩
            have LK : Hid (ck.length = 4) := by show _ = _; rw [hck]; rfl
            have UP : Hid (∀ wx, Below wr.heap.size wr wx → Below w.heap.size w wx) := fun wx hwx => HB3.out.trans (hwx.mono HB3.out.size)
            have RK : Hid (∀ wx, Below wr.heap.size wr wx → wx.rangeAt g (o + k * 4) ck) := by
              intro wx hwx
              rw [hck]
              exact cn_range (fun j u hu => cellLater' (HC.out j u hu) (UP.out wx hwx)) (by rw [HL.out]; exact hkn)
            have RI : Hid (∀ wx, Below wr.heap.size wr wx → wx.rangeAt g (o + i * 4) ci) := fun wx hwx => RI0.out wx (UP.out wx hwx)
            have BT : Hid (∀ wx, Below wr.heap.size wr wx → Calls Try.prog 15 #[.agg ck.toArray, .agg ci.toArray] wx fun e w' => e = .returned (.bool bt) ∧ Below wx.heap.size wx w') := by rw [hck, hbt]; exact fun wx _ => BI.out k wx
            have HBT := Lib.hid hbt
            clear hck hbt
            cases bt
            · go_wp2_with (fail)
              refine wp_lax_list (by kernel_rfl) (by kernel_rfl) (by kernel_rfl) ?_
              refine wpL_move (.bool true) rfl (by kernel_rfl) (by kernel_rfl) (by kernel_rfl) (by kernel_rfl) ?_
              refine wpL_move (.bool true) rfl (by kernel_rfl) (by kernel_rfl) (by kernel_rfl) (by kernel_rfl) ?_
              refine wpL_move (.slice (some ⟨g, o, none⟩) n c) rfl (by kernel_rfl) (by kernel_rfl) (by kernel_rfl) (by kernel_rfl) ?_
              refine wpL_move (.int .i64 (k : Int)) rfl (by kernel_rfl) (by kernel_rfl) (by kernel_rfl) (by kernel_rfl) ?_
              refine wpL_run2 (x := .tmp 25) (y := .tmp 26) (.slice (some ⟨g, o, none⟩) n c) (.int .i64 (k : Int)) (.pointer (some ⟨g, o + k * 4, none⟩)) (by kernel_rfl) (by kernel_rfl) (by kernel_rfl) (by kernel_rfl) (by kernel_rfl) (by kernel_rfl) (fun wx ρ hwx h0 h1 hc => idx_cn rfl hkn ρ wx h0 h1) ?_
              refine wpL_run1 (x := .tmp 27) (.pointer (some ⟨g, o + k * 4, none⟩)) (.agg ck.toArray) (by kernel_rfl) (by kernel_rfl) (by kernel_rfl) (by kernel_rfl) (by kernel_rfl) (fun wx ρ hwx h0 hc => load_cn ck LK.out rfl ρ (RK.out wx hwx) h0) ?_
              refine wpL_move (.slice (some ⟨g, o, none⟩) n c) rfl (by kernel_rfl) (by kernel_rfl) (by kernel_rfl) (by kernel_rfl) ?_
              refine wpL_move (.int .i64 (i : Int)) rfl (by kernel_rfl) (by kernel_rfl) (by kernel_rfl) (by kernel_rfl) ?_
              refine wpL_run2 (x := .tmp 29) (y := .tmp 30) (.slice (some ⟨g, o, none⟩) n c) (.int .i64 (i : Int)) (.pointer (some ⟨g, o + i * 4, none⟩)) (by kernel_rfl) (by kernel_rfl) (by kernel_rfl) (by kernel_rfl) (by kernel_rfl) (by kernel_rfl) (fun wx ρ hwx h0 h1 hc => idx_cn rfl hin2 ρ wx h0 h1) ?_
              refine wpL_run1 (x := .tmp 31) (.pointer (some ⟨g, o + i * 4, none⟩)) (.agg ci.toArray) (by kernel_rfl) (by kernel_rfl) (by kernel_rfl) (by kernel_rfl) (by kernel_rfl) (fun wx ρ hwx h0 hc => load_cn ci LI.out rfl ρ (RI.out wx hwx) h0) ?_
              refine wpL_fn (.bool false) [.agg ck.toArray, .agg ci.toArray] rfl (by kernel_rfl) (by kernel_rfl) (by kernel_rfl) (by kernel_rfl) (fun _ _ => by simp [go_sem]) (fun wx hwx => BT.out wx hwx) ?_
              refine wpL_run1 (x := .tmp 33) (.bool false) (.bool true) (by kernel_rfl) (by kernel_rfl) (by kernel_rfl) (by kernel_rfl) (by kernel_rfl) (fun wx ρ hwx h0 hc => by simp [go_sem, h0]) ?_
              refine wpL_run2 (x := .tmp 24) (y := .tmp 34) (.bool true) (.bool true) (.bool true) (by kernel_rfl) (by kernel_rfl) (by kernel_rfl) (by kernel_rfl) (by kernel_rfl) (by kernel_rfl) (fun wx ρ hwx h0 h1 hc => by simp [go_sem, h0, h1, hc]) ?_
              refine wpL_assign (.bool true) rfl (by kernel_rfl) (by kernel_rfl) (by kernel_rfl) (by kernel_rfl) ?_
              refine wpL_end (by kernel_rfl) (fun w4 hw4 => ?_)
              simp only [FinL, setL, List.set_cons_zero, List.set_cons_succ]
              have HB4 := Lib.hid (UP.out w4 hw4)
              clear hw4 RK RI BT UP
              go_wp2
              go_roundw
              case rel => exact ⟨k + 1, true, by omega, by go_num, rfl, HB4.out, by rw [topF, HT.out, ← HBT.out]; rfl⟩
              case measure => simp [intOf]; omega
            · go_wp2_with (fail)
              refine wp_lax_list (by kernel_rfl) (by kernel_rfl) (by kernel_rfl) ?_
              refine wpL_move (.bool true) rfl (by kernel_rfl) (by kernel_rfl) (by kernel_rfl) (by kernel_rfl) ?_
              refine wpL_move (.bool true) rfl (by kernel_rfl) (by kernel_rfl) (by kernel_rfl) (by kernel_rfl) ?_
              refine wpL_move (.slice (some ⟨g, o, none⟩) n c) rfl (by kernel_rfl) (by kernel_rfl) (by kernel_rfl) (by kernel_rfl) ?_
              refine wpL_move (.int .i64 (k : Int)) rfl (by kernel_rfl) (by kernel_rfl) (by kernel_rfl) (by kernel_rfl) ?_
              refine wpL_run2 (x := .tmp 25) (y := .tmp 26) (.slice (some ⟨g, o, none⟩) n c) (.int .i64 (k : Int)) (.pointer (some ⟨g, o + k * 4, none⟩)) (by kernel_rfl) (by kernel_rfl) (by kernel_rfl) (by kernel_rfl) (by kernel_rfl) (by kernel_rfl) (fun wx ρ hwx h0 h1 hc => idx_cn rfl hkn ρ wx h0 h1) ?_
              refine wpL_run1 (x := .tmp 27) (.pointer (some ⟨g, o + k * 4, none⟩)) (.agg ck.toArray) (by kernel_rfl) (by kernel_rfl) (by kernel_rfl) (by kernel_rfl) (by kernel_rfl) (fun wx ρ hwx h0 hc => load_cn ck LK.out rfl ρ (RK.out wx hwx) h0) ?_
              refine wpL_move (.slice (some ⟨g, o, none⟩) n c) rfl (by kernel_rfl) (by kernel_rfl) (by kernel_rfl) (by kernel_rfl) ?_
              refine wpL_move (.int .i64 (i : Int)) rfl (by kernel_rfl) (by kernel_rfl) (by kernel_rfl) (by kernel_rfl) ?_
              refine wpL_run2 (x := .tmp 29) (y := .tmp 30) (.slice (some ⟨g, o, none⟩) n c) (.int .i64 (i : Int)) (.pointer (some ⟨g, o + i * 4, none⟩)) (by kernel_rfl) (by kernel_rfl) (by kernel_rfl) (by kernel_rfl) (by kernel_rfl) (by kernel_rfl) (fun wx ρ hwx h0 h1 hc => idx_cn rfl hin2 ρ wx h0 h1) ?_
              refine wpL_run1 (x := .tmp 31) (.pointer (some ⟨g, o + i * 4, none⟩)) (.agg ci.toArray) (by kernel_rfl) (by kernel_rfl) (by kernel_rfl) (by kernel_rfl) (by kernel_rfl) (fun wx ρ hwx h0 hc => load_cn ci LI.out rfl ρ (RI.out wx hwx) h0) ?_
              refine wpL_fn (.bool true) [.agg ck.toArray, .agg ci.toArray] rfl (by kernel_rfl) (by kernel_rfl) (by kernel_rfl) (by kernel_rfl) (fun _ _ => by simp [go_sem]) (fun wx hwx => BT.out wx hwx) ?_
              refine wpL_run1 (x := .tmp 33) (.bool true) (.bool false) (by kernel_rfl) (by kernel_rfl) (by kernel_rfl) (by kernel_rfl) (by kernel_rfl) (fun wx ρ hwx h0 hc => by simp [go_sem, h0]) ?_
              refine wpL_run2 (x := .tmp 24) (y := .tmp 34) (.bool true) (.bool false) (.bool false) (by kernel_rfl) (by kernel_rfl) (by kernel_rfl) (by kernel_rfl) (by kernel_rfl) (by kernel_rfl) (fun wx ρ hwx h0 h1 hc => by simp [go_sem, h0, h1, hc]) ?_
              refine wpL_assign (.bool false) rfl (by kernel_rfl) (by kernel_rfl) (by kernel_rfl) (by kernel_rfl) ?_
              refine wpL_end (by kernel_rfl) (fun w4 hw4 => ?_)
              simp only [FinL, setL, List.set_cons_zero, List.set_cons_succ]
              have HB4 := Lib.hid (UP.out w4 hw4)
              clear hw4 RK RI BT UP
              go_wp2
              go_roundw
              case rel => exact ⟨k + 1, false, by omega, by go_num, rfl, HB4.out, by rw [topF, HT.out, ← HBT.out]; rfl⟩
              case measure => simp [intOf]; omega
        · have HKN : Hid (k = n) := by show _ = _; omega
          have HTP : Hid (isTop L (at_ L i) = t) := by
            show _ = _
            rw [← HT.out, isTop, HL.out, HKN.out]
          cases t
          · go_wp2_with (fail)
            go_roundw
            case rel =>
              refine ⟨i + 1, by omega, by go_num, HB3.out, fun j hj => ?_⟩
              rcases Nat.lt_or_ge j i with h | h
              · exact HNO.out j h
              · obtain rfl : j = i := by omega
                exact HTP.out
            case measure => simp [intOf]; omega
          · go_wp2_with (fail)
            go_ret
            refine ⟨?_, HB3.out⟩
            have h := best_eq L i (by rw [HL.out]; exact hin) HNO.out (fun _ => HTP.out)
            rw [HX.out, bestI, h, if_pos (by rw [HL.out]; exact hin2)]
            rfl
    · have HIN : Hid (i = n) := by show _ = _; omega
      go_wp2_with (fail)
      go_ret
      refine ⟨?_, HB.out⟩
      have h := best_eq L i (by rw [HL.out]; exact hin) HNO.out (fun h => absurd h (by rw [HL.out, HIN.out]; exact Nat.lt_irrefl _))
      rw [HX.out, bestI, h, if_neg (by rw [HL.out, HIN.out]; exact Nat.lt_irrefl _)]
      rfl
end
end Pic
end Go.Proofs.Ytcbkhgjjbponhaa

end
section
namespace Go.Proofs.Ytcbkhgjjbponhaa
open Go.RowKit Go.Own
namespace Pic
open Go.PicM Byt
/-- returns true, and old memory is as it was -/
def RetYes (w : World) (e : Ending) (w' : World) : Prop := e = .returned (.bool true) ∧ Below w.heap.size w w'
/-- what the landed pick must keep -/
structure Kept (W : World) : Prop where
  right : ∀ {w : World} (c : Cn), Below W.heap.size W w → Fits c → Calls Try.prog 10 #[cV c] w fun e w' => e = .returned (.bool (right c)) ∧ Below w.heap.size w w'
  gains : ∀ {w : World} (c : Cn), Below W.heap.size W w → Fits c → Calls Try.prog 12 #[cV c] w fun e w' => e = .returned (.bool (gains c)) ∧ Below w.heap.size w w'
  better : ∀ {w : World} (a b : Cn), Below W.heap.size W w → Fits a → Fits b → Calls Try.prog 14 #[cV a, cV b] w fun e w' => e = .returned (.bool (better a b)) ∧ Below w.heap.size w w'
  best : ∀ {w : World} (L : List Cn) (n : Nat) (v : Value), Below W.heap.size W w → (∀ c ∈ L, Fits c) → L.length = n → n ≤ 1000000 → RdWin w v n (L.flatMap cC) → Calls Try.prog 16 #[v] w fun e w' => e = .returned (.int .i64 (bestI L)) ∧ Below w.heap.size w w'
theorem idx_cnc {o : Oper} {x : Tmp} {k : Nat} (ho : o.op = .indexAddr 28 (.tmp x) (.const (.int .i64 (k : Int)))) {b n c : Nat} (hk : k < n) (ρ : Operand → Value) (w : World) (h0 : ρ (.tmp x) = .slice (some ⟨b, 0, none⟩) n c) (hc : ∀ c, ρ (.const c) = c) : (execOp ρ o).run Try.prog w = .ok (.value (.pointer (some ⟨b, k * 4, none⟩))) w := by
  obtain ⟨i, hi, hs⟩ := Option.map_eq_some_iff.1 size_cn
  have h2 : (k : Int) < (n : Int) := by omega
  have hu := Try.underlying28
  simp [execOp, ho, h0, hc, go_sem, h2, hu]
def s1 : Cn := ⟨1, 4, 8, 0⟩
def s2 : Cn := ⟨2, 0, 8, 0⟩
def s3 : Cn := ⟨3, 6, 8, 30⟩
theorem s_fits : ∀ c ∈ [s1, s2, s3], Fits c := by
  intro c hc
  simp only [List.mem_cons, List.not_mem_nil, or_false] at hc
  rcases hc with rfl | rfl | rfl <;> exact ⟨by decide, by decide, by decide, by decide⟩
set_option maxRecDepth 6000 in
set_option maxHeartbeats 3200000 in
theorem shown_any {W w : World} (K : Kept W) (hW : Below W.heap.size W w) : Calls Try.prog 9 #[] w (RetYes w) := by
  have hbox := (Own.St.start w).boxV 24 ([s1, s2, s3].flatMap cC)
  obtain ⟨b, hb⟩ : ∃ b, b = w.heap.size := ⟨_, rfl⟩
  obtain ⟨cs, hcs⟩ : ∃ x, x = [s1, s2, s3].flatMap cC := ⟨_, rfl⟩
  obtain ⟨w1, hw1⟩ : ∃ x, x = w.alloc (.cells cs.toArray 24) := ⟨_, rfl⟩
  obtain ⟨c0, h0⟩ : ∃ x, x = cC s1 := ⟨_, rfl⟩
  obtain ⟨c1, h1⟩ : ∃ x, x = cC s2 := ⟨_, rfl⟩
  obtain ⟨c2, h2⟩ : ∃ x, x = cC s3 := ⟨_, rfl⟩
  rw [← hcs, ← hw1, ← hb] at hbox
  have hbelow : Below w.heap.size w w1 := by have := hbox.below; rwa [hb] at this
  have HW1 := Lib.hid hbelow
  have UP : Hid (∀ wx, Below w1.heap.size w1 wx → Below W.heap.size W wx) := fun wx hwx => hW.trans ((HW1.out.trans (hwx.mono HW1.out.size)).mono hW.size)
  have HR : Hid (∀ wx, Below w1.heap.size w1 wx → ∀ j u, cs[j]? = some u → wx.cell? ⟨b, j, none⟩ = some u) := fun wx hwx j u hu => ((hbox.later hwx).cellV 0 rfl j hu).1
  have RW : Hid (∀ wx, Below w1.heap.size w1 wx → RdWin wx (.slice (some ⟨b, 0, none⟩) 3 3) 3 ([s1, s2, s3].flatMap cC)) := by
    rw [← hcs]
    exact fun wx hwx => ⟨_, _, rfl, .inr ⟨b, 0, rfl, fun j u hu => by rw [Nat.zero_add]; exact HR.out wx hwx j u hu⟩⟩
  have RG : ∀ wx, Below w1.heap.size w1 wx → ∀ k (hk : k < 3), wx.rangeAt b (0 + k * 4) (cC (at_ [s1, s2, s3] k)) := fun wx hwx k hk => cn_range (g := b) (o := 0) (fun j u hu => by rw [Nat.zero_add]; exact HR.out wx hwx j u (by rw [hcs]; exact hu)) hk
  have R0 : Hid (∀ wx, Below w1.heap.size w1 wx → wx.rangeAt b (0 * 4) c0) := fun wx hwx => by have := RG wx hwx 0 (by decide); rw [Nat.zero_add] at this; rw [h0]; exact this
  have R1 : Hid (∀ wx, Below w1.heap.size w1 wx → wx.rangeAt b (1 * 4) c1) := fun wx hwx => by have := RG wx hwx 1 (by decide); rw [Nat.zero_add] at this; rw [h1]; exact this
  have R2 : Hid (∀ wx, Below w1.heap.size w1 wx → wx.rangeAt b (2 * 4) c2) := fun wx hwx => by have := RG wx hwx 2 (by decide); rw [Nat.zero_add] at this; rw [h2]; exact this
  have L0 : Hid (c0.length = 4) := by show _ = _; rw [h0]; rfl
  have L1 : Hid (c1.length = 4) := by show _ = _; rw [h1]; rfl
  have L2 : Hid (c2.length = 4) := by show _ = _; rw [h2]; rfl
  have C1 : Hid (∀ wx, Below w1.heap.size w1 wx → Calls Try.prog 16 #[.slice (some ⟨b, 0, none⟩) 3 3] wx fun e w' => e = .returned (.int .i64 2) ∧ Below wx.heap.size wx w') := fun wx hwx => by
    have h := K.best [s1, s2, s3] 3 _ (UP.out wx hwx) s_fits rfl (by decide) (RW.out wx hwx)
    rw [show bestI [s1, s2, s3] = 2 by kernel_rfl] at h
    exact h
  have C2 : Hid (∀ wx, Below w1.heap.size w1 wx → Calls Try.prog 14 #[.agg c1.toArray, .agg c0.toArray] wx fun e w' => e = .returned (.bool true) ∧ Below wx.heap.size wx w') := fun wx hwx => by
    have h := K.better s2 s1 (UP.out wx hwx) (s_fits _ (by simp)) (s_fits _ (by simp))
    rw [show better s2 s1 = true by kernel_rfl] at h
    rw [h1, h0]
    exact h
  have C3 : Hid (∀ wx, Below w1.heap.size w1 wx → Calls Try.prog 14 #[.agg c1.toArray, .agg c2.toArray] wx fun e w' => e = .returned (.bool false) ∧ Below wx.heap.size wx w') := fun wx hwx => by
    have h := K.better s2 s3 (UP.out wx hwx) (s_fits _ (by simp)) (s_fits _ (by simp))
    rw [show better s2 s3 = false by kernel_rfl] at h
    rw [h1, h2]
    exact h
  have C4 : Hid (∀ wx, Below w1.heap.size w1 wx → Calls Try.prog 16 #[.slice none 0 0] wx fun e w' => e = .returned (.int .i64 (-1)) ∧ Below wx.heap.size wx w') := fun wx hwx => by
    have h := K.best [] 0 (.slice none 0 0) (UP.out wx hwx) (fun c hc => by cases hc) rfl (by decide) ⟨_, _, rfl, .inl rfl⟩
    rw [show bestI [] = -1 by kernel_rfl] at h
    exact h
  have HB := Lib.hid hb
  have HWW : Hid (w1 = w.alloc (.cells #[.int .i64 1, .int .i64 4, .int .i64 8, .int .u64 0, .int .i64 2, .int .i64 0, .int .i64 8, .int .u64 0, .int .i64 3, .int .i64 6, .int .i64 8, .int .u64 30] 24)) := by show _ = _; rw [hw1, hcs]; rfl
  clear hbox hcs hw1 h0 h1 h2 hbelow RG RW HR UP hW K hb
  go_enter Try.func9, Try.ntmps9
  go_wp2_with (fail)
  rw [← HWW.out, ← HB.out]
  refine wp_lax_list (by kernel_rfl) (by kernel_rfl) (by kernel_rfl) ?_
  refine wpL_move (.slice (some ⟨b, 0, none⟩) 3 3) rfl (by kernel_rfl) (by kernel_rfl) (by kernel_rfl) (by kernel_rfl) ?_
  refine wpL_fn (.int .i64 2) [.slice (some ⟨b, 0, none⟩) 3 3] rfl (by kernel_rfl) (by kernel_rfl) (by kernel_rfl) (by kernel_rfl) (fun _ _ => by simp [go_sem]) (fun wx hwx => C1.out wx hwx) ?_
  refine wpL_run1 (x := .tmp 7) (.int .i64 2) (.bool true) (by kernel_rfl) (by kernel_rfl) (by kernel_rfl) (by kernel_rfl) (by kernel_rfl) (fun wx ρ hwx h0 hc => by simp [go_sem, h0, hc]) ?_
  refine wpL_move (.bool true) rfl (by kernel_rfl) (by kernel_rfl) (by kernel_rfl) (by kernel_rfl) ?_
  refine wpL_move (.slice (some ⟨b, 0, none⟩) 3 3) rfl (by kernel_rfl) (by kernel_rfl) (by kernel_rfl) (by kernel_rfl) ?_
  refine wpL_run1 (x := .tmp 10) (.slice (some ⟨b, 0, none⟩) 3 3) (.pointer (some ⟨b, 1 * 4, none⟩)) (by kernel_rfl) (by kernel_rfl) (by kernel_rfl) (by kernel_rfl) (by kernel_rfl) (fun wx ρ hwx h0 hc => idx_cnc (k := 1) rfl (by decide) ρ wx h0 hc) ?_
  refine wpL_run1 (x := .tmp 11) (.pointer (some ⟨b, 1 * 4, none⟩)) (.agg c1.toArray) (by kernel_rfl) (by kernel_rfl) (by kernel_rfl) (by kernel_rfl) (by kernel_rfl) (fun wx ρ hwx h0 hc => load_cn c1 L1.out rfl ρ (R1.out wx hwx) h0) ?_
  refine wpL_move (.slice (some ⟨b, 0, none⟩) 3 3) rfl (by kernel_rfl) (by kernel_rfl) (by kernel_rfl) (by kernel_rfl) ?_
  refine wpL_run1 (x := .tmp 13) (.slice (some ⟨b, 0, none⟩) 3 3) (.pointer (some ⟨b, 0 * 4, none⟩)) (by kernel_rfl) (by kernel_rfl) (by kernel_rfl) (by kernel_rfl) (by kernel_rfl) (fun wx ρ hwx h0 hc => idx_cnc (k := 0) rfl (by decide) ρ wx h0 hc) ?_
  refine wpL_run1 (x := .tmp 14) (.pointer (some ⟨b, 0 * 4, none⟩)) (.agg c0.toArray) (by kernel_rfl) (by kernel_rfl) (by kernel_rfl) (by kernel_rfl) (by kernel_rfl) (fun wx ρ hwx h0 hc => load_cn c0 L0.out rfl ρ (R0.out wx hwx) h0) ?_
  refine wpL_fn (.bool true) [.agg c1.toArray, .agg c0.toArray] rfl (by kernel_rfl) (by kernel_rfl) (by kernel_rfl) (by kernel_rfl) (fun _ _ => by simp [go_sem]) (fun wx hwx => C2.out wx hwx) ?_
  refine wpL_run2 (x := .tmp 9) (y := .tmp 16) (.bool true) (.bool true) (.bool true) (by kernel_rfl) (by kernel_rfl) (by kernel_rfl) (by kernel_rfl) (by kernel_rfl) (by kernel_rfl) (fun wx ρ hwx h0 h1 hc => by simp [go_sem, h0, h1, hc]) ?_
  refine wpL_move (.bool true) rfl (by kernel_rfl) (by kernel_rfl) (by kernel_rfl) (by kernel_rfl) ?_
  refine wpL_move (.slice (some ⟨b, 0, none⟩) 3 3) rfl (by kernel_rfl) (by kernel_rfl) (by kernel_rfl) (by kernel_rfl) ?_
  refine wpL_run1 (x := .tmp 19) (.slice (some ⟨b, 0, none⟩) 3 3) (.pointer (some ⟨b, 1 * 4, none⟩)) (by kernel_rfl) (by kernel_rfl) (by kernel_rfl) (by kernel_rfl) (by kernel_rfl) (fun wx ρ hwx h0 hc => idx_cnc (k := 1) rfl (by decide) ρ wx h0 hc) ?_
  refine wpL_run1 (x := .tmp 20) (.pointer (some ⟨b, 1 * 4, none⟩)) (.agg c1.toArray) (by kernel_rfl) (by kernel_rfl) (by kernel_rfl) (by kernel_rfl) (by kernel_rfl) (fun wx ρ hwx h0 hc => load_cn c1 L1.out rfl ρ (R1.out wx hwx) h0) ?_
  refine wpL_move (.slice (some ⟨b, 0, none⟩) 3 3) rfl (by kernel_rfl) (by kernel_rfl) (by kernel_rfl) (by kernel_rfl) ?_
  refine wpL_run1 (x := .tmp 22) (.slice (some ⟨b, 0, none⟩) 3 3) (.pointer (some ⟨b, 2 * 4, none⟩)) (by kernel_rfl) (by kernel_rfl) (by kernel_rfl) (by kernel_rfl) (by kernel_rfl) (fun wx ρ hwx h0 hc => idx_cnc (k := 2) rfl (by decide) ρ wx h0 hc) ?_
  refine wpL_run1 (x := .tmp 23) (.pointer (some ⟨b, 2 * 4, none⟩)) (.agg c2.toArray) (by kernel_rfl) (by kernel_rfl) (by kernel_rfl) (by kernel_rfl) (by kernel_rfl) (fun wx ρ hwx h0 hc => load_cn c2 L2.out rfl ρ (R2.out wx hwx) h0) ?_
  refine wpL_fn (.bool false) [.agg c1.toArray, .agg c2.toArray] rfl (by kernel_rfl) (by kernel_rfl) (by kernel_rfl) (by kernel_rfl) (fun _ _ => by simp [go_sem]) (fun wx hwx => C3.out wx hwx) ?_
  refine wpL_run1 (x := .tmp 25) (.bool false) (.bool true) (by kernel_rfl) (by kernel_rfl) (by kernel_rfl) (by kernel_rfl) (by kernel_rfl) (fun wx ρ hwx h0 hc => by simp [go_sem, h0]) ?_
  refine wpL_run2 (x := .tmp 18) (y := .tmp 26) (.bool true) (.bool true) (.bool true) (by kernel_rfl) (by kernel_rfl) (by kernel_rfl) (by kernel_rfl) (by kernel_rfl) (by kernel_rfl) (fun wx ρ hwx h0 h1 hc => by simp [go_sem, h0, h1, hc]) ?_
  refine wpL_move (.bool true) rfl (by kernel_rfl) (by kernel_rfl) (by kernel_rfl) (by kernel_rfl) ?_
  refine wpL_fn (.int .i64 (-1)) [.slice none 0 0] rfl (by kernel_rfl) (by kernel_rfl) (by kernel_rfl) (by kernel_rfl) (fun _ _ => by simp [go_sem]) (fun wx hwx => C4.out wx hwx) ?_
  refine wpL_run1 (x := .tmp 29) (.int .i64 (-1)) (.bool true) (by kernel_rfl) (by kernel_rfl) (by kernel_rfl) (by kernel_rfl) (by kernel_rfl) (fun wx ρ hwx h0 hc => by simp [go_sem, h0, hc]) ?_
  refine wpL_run2 (x := .tmp 28) (y := .tmp 30) (.bool true) (.bool true) (.bool true) (by kernel_rfl) (by kernel_rfl) (by kernel_rfl) (by kernel_rfl) (by kernel_rfl) (by kernel_rfl) (fun wx ρ hwx h0 h1 hc => by simp [go_sem, h0, h1, hc]) ?_
  refine wpL_assign (.bool true) rfl (by kernel_rfl) (by kernel_rfl) (by kernel_rfl) (by kernel_rfl) ?_
  refine wpL_end (by kernel_rfl) (fun w2 hw2 => ?_)
  simp only [FinL, setL, List.set_cons_zero, List.set_cons_succ]
  have HE := Lib.hid (HW1.out.trans (hw2.mono HW1.out.size))
  clear hw2 R0 R1 R2 C1 C2 C3 C4
  go_wp2
  go_ret
  exact ⟨rfl, HE.out⟩
set_option maxRecDepth 6000 in
set_option maxHeartbeats 3200000 in
theorem walk_compares {W w : World} (a b : Cn) (fa : Fits a) (fb : Fits b) (K : Kept W) (hW : Below W.heap.size W w) : Calls Try.prog 3 #[cV a, cV b] w (RetYes w) := by
  have hbox := ((Own.St.start w).boxV 24 (cC a)).boxV 24 (cC b)
  obtain ⟨c2, hc2⟩ : ∃ x, x = cC a := ⟨_, rfl⟩
  obtain ⟨c3, hc3⟩ : ∃ x, x = cC b := ⟨_, rfl⟩
  obtain ⟨b2, hb2⟩ : ∃ x, x = w.heap.size := ⟨_, rfl⟩
  obtain ⟨wa, hwa⟩ : ∃ x, x = w.alloc (.cells c2.toArray 24) := ⟨_, rfl⟩
  obtain ⟨b3, hb3⟩ : ∃ x, x = wa.heap.size := ⟨_, rfl⟩
  obtain ⟨w1, hw1⟩ : ∃ x, x = wa.alloc (.cells c3.toArray 24) := ⟨_, rfl⟩
  have hb1 : Own.St w.heap.size w w1 [AVals b3 24 c3, AVals b2 24 c2] := by rw [hw1, hb3, hwa, hb2, hc2, hc3]; exact hbox
  have L2 : Hid (c2.length = 4) := by show _ = _; rw [hc2]; rfl
  have L3 : Hid (c3.length = 4) := by show _ = _; rw [hc3]; rfl
  have UP : ∀ wx, Below w1.heap.size w1 wx → Below W.heap.size W wx := fun wx hwx => hW.trans ((hb1.later hwx).below.mono hW.size)
  obtain ⟨ra, hra⟩ : ∃ x, x = right a := ⟨_, rfl⟩
  obtain ⟨ga, hga⟩ : ∃ x, x = gains a := ⟨_, rfl⟩
  obtain ⟨ba, hba⟩ : ∃ x, x = better a b := ⟨_, rfl⟩
  have SH : Hid (∀ wx, Below w1.heap.size w1 wx → Calls Try.prog 9 #[] wx (RetYes wx)) := fun wx hwx => shown_any K (UP wx hwx)
  have C1 : Hid (∀ wx, Below w1.heap.size w1 wx → Calls Try.prog 10 #[.agg c2.toArray] wx fun e w' => e = .returned (.bool ra) ∧ Below wx.heap.size wx w') := by rw [hc2, hra]; exact fun wx hwx => K.right a (UP wx hwx) fa
  have C2 : Hid (∀ wx, Below w1.heap.size w1 wx → Calls Try.prog 11 #[.agg c2.toArray] wx fun e w' => e = .returned (.bool ra) ∧ Below wx.heap.size wx w') := by rw [hc2, hra]; exact fun wx hwx => rightR_any a wx
  have C3 : Hid (∀ wx, Below w1.heap.size w1 wx → Calls Try.prog 12 #[.agg c2.toArray] wx fun e w' => e = .returned (.bool ga) ∧ Below wx.heap.size wx w') := by rw [hc2, hga]; exact fun wx hwx => K.gains a (UP wx hwx) fa
  have C4 : Hid (∀ wx, Below w1.heap.size w1 wx → Calls Try.prog 13 #[.agg c2.toArray] wx fun e w' => e = .returned (.bool ga) ∧ Below wx.heap.size wx w') := by rw [hc2, hga]; exact fun wx hwx => gainsR_any a wx
  have C5 : Hid (∀ wx, Below w1.heap.size w1 wx → Calls Try.prog 14 #[.agg c2.toArray, .agg c3.toArray] wx fun e w' => e = .returned (.bool ba) ∧ Below wx.heap.size wx w') := by rw [hc2, hc3, hba]; exact fun wx hwx => K.better a b (UP wx hwx) fa fb
  have C6 : Hid (∀ wx, Below w1.heap.size w1 wx → Calls Try.prog 15 #[.agg c2.toArray, .agg c3.toArray] wx fun e w' => e = .returned (.bool ba) ∧ Below wx.heap.size wx w') := by rw [hc2, hc3, hba]; exact fun wx hwx => betterR_any a b wx
  have R2 : Hid (∀ wx, Below w1.heap.size w1 wx → wx.rangeAt b2 0 c2) := fun wx hwx => (hb1.later hwx).boxRange 1 rfl
  have R3 : Hid (∀ wx, Below w1.heap.size w1 wx → wx.rangeAt b3 0 c3) := fun wx hwx => (hb1.later hwx).boxRange 0 rfl
  have hb3' : b3 = b2 + 1 := by rw [hb3, hwa, hb2]; exact Array.size_push ..
  have HWA := Lib.hid hwa
  have HB2 := Lib.hid hb2
  have HB3 := Lib.hid hb3'
  have HW1 := Lib.hid hw1
  have H1 := Lib.hid hb1
  show Calls Try.prog _ #[.agg (cC a).toArray, .agg (cC b).toArray] w _
  rw [← hc2, ← hc3]
  clear hbox hc2 hc3 hb2 hwa hb3 hb3' hw1 hb1 UP hra hga hba K hW fa fb
  go_enter Try.func3, Try.ntmps3
  go_wp2_with (fail)
  rw [← HWA.out, ← HB2.out, ← HB3.out, ← HW1.out]
  refine wp_lax_list (by kernel_rfl) (by kernel_rfl) (by kernel_rfl) ?_
  refine wpL_fn (.bool true) [] rfl (by kernel_rfl) (by kernel_rfl) (by kernel_rfl) (by kernel_rfl) (fun _ _ => by simp [go_sem]) (fun wx hwx => SH.out wx hwx) ?_
  refine wpL_move (.bool true) rfl (by kernel_rfl) (by kernel_rfl) (by kernel_rfl) (by kernel_rfl) ?_
  refine wpL_run1 (x := .tmp 2) (ptr b2) (.agg c2.toArray) (by kernel_rfl) (by kernel_rfl) (by kernel_rfl) (by kernel_rfl) (by kernel_rfl) (fun wx ρ hwx h0 hc => load_cn c2 L2.out rfl ρ (R2.out wx hwx) h0) ?_
  refine wpL_fn (.bool ra) [.agg c2.toArray] rfl (by kernel_rfl) (by kernel_rfl) (by kernel_rfl) (by kernel_rfl) (fun _ _ => by simp [go_sem]) (fun wx hwx => C1.out wx hwx) ?_
  refine wpL_run1 (x := .tmp 2) (ptr b2) (.agg c2.toArray) (by kernel_rfl) (by kernel_rfl) (by kernel_rfl) (by kernel_rfl) (by kernel_rfl) (fun wx ρ hwx h0 hc => load_cn c2 L2.out rfl ρ (R2.out wx hwx) h0) ?_
  refine wpL_fn (.bool ra) [.agg c2.toArray] rfl (by kernel_rfl) (by kernel_rfl) (by kernel_rfl) (by kernel_rfl) (fun _ _ => by simp [go_sem]) (fun wx hwx => C2.out wx hwx) ?_
  refine wpL_run2 (x := .tmp 8) (y := .tmp 10) (.bool ra) (.bool ra) (.bool true) (by kernel_rfl) (by kernel_rfl) (by kernel_rfl) (by kernel_rfl) (by kernel_rfl) (by kernel_rfl) (fun wx ρ hwx h0 h1 hc => by simp [go_sem, h0, h1]) ?_
  refine wpL_run2 (x := .tmp 6) (y := .tmp 11) (.bool true) (.bool true) (.bool true) (by kernel_rfl) (by kernel_rfl) (by kernel_rfl) (by kernel_rfl) (by kernel_rfl) (by kernel_rfl) (fun wx ρ hwx h0 h1 hc => by simp [go_sem, h0, h1, hc]) ?_
  refine wpL_move (.bool true) rfl (by kernel_rfl) (by kernel_rfl) (by kernel_rfl) (by kernel_rfl) ?_
  refine wpL_run1 (x := .tmp 2) (ptr b2) (.agg c2.toArray) (by kernel_rfl) (by kernel_rfl) (by kernel_rfl) (by kernel_rfl) (by kernel_rfl) (fun wx ρ hwx h0 hc => load_cn c2 L2.out rfl ρ (R2.out wx hwx) h0) ?_
  refine wpL_fn (.bool ga) [.agg c2.toArray] rfl (by kernel_rfl) (by kernel_rfl) (by kernel_rfl) (by kernel_rfl) (fun _ _ => by simp [go_sem]) (fun wx hwx => C3.out wx hwx) ?_
  refine wpL_run1 (x := .tmp 2) (ptr b2) (.agg c2.toArray) (by kernel_rfl) (by kernel_rfl) (by kernel_rfl) (by kernel_rfl) (by kernel_rfl) (fun wx ρ hwx h0 hc => load_cn c2 L2.out rfl ρ (R2.out wx hwx) h0) ?_
  refine wpL_fn (.bool ga) [.agg c2.toArray] rfl (by kernel_rfl) (by kernel_rfl) (by kernel_rfl) (by kernel_rfl) (fun _ _ => by simp [go_sem]) (fun wx hwx => C4.out wx hwx) ?_
  refine wpL_run2 (x := .tmp 15) (y := .tmp 17) (.bool ga) (.bool ga) (.bool true) (by kernel_rfl) (by kernel_rfl) (by kernel_rfl) (by kernel_rfl) (by kernel_rfl) (by kernel_rfl) (fun wx ρ hwx h0 h1 hc => by simp [go_sem, h0, h1]) ?_
  refine wpL_run2 (x := .tmp 13) (y := .tmp 18) (.bool true) (.bool true) (.bool true) (by kernel_rfl) (by kernel_rfl) (by kernel_rfl) (by kernel_rfl) (by kernel_rfl) (by kernel_rfl) (fun wx ρ hwx h0 h1 hc => by simp [go_sem, h0, h1, hc]) ?_
  refine wpL_move (.bool true) rfl (by kernel_rfl) (by kernel_rfl) (by kernel_rfl) (by kernel_rfl) ?_
  refine wpL_run1 (x := .tmp 2) (ptr b2) (.agg c2.toArray) (by kernel_rfl) (by kernel_rfl) (by kernel_rfl) (by kernel_rfl) (by kernel_rfl) (fun wx ρ hwx h0 hc => load_cn c2 L2.out rfl ρ (R2.out wx hwx) h0) ?_
  refine wpL_run1 (x := .tmp 3) (ptr b3) (.agg c3.toArray) (by kernel_rfl) (by kernel_rfl) (by kernel_rfl) (by kernel_rfl) (by kernel_rfl) (fun wx ρ hwx h0 hc => load_cn c3 L3.out rfl ρ (R3.out wx hwx) h0) ?_
  refine wpL_fn (.bool ba) [.agg c2.toArray, .agg c3.toArray] rfl (by kernel_rfl) (by kernel_rfl) (by kernel_rfl) (by kernel_rfl) (fun _ _ => by simp [go_sem]) (fun wx hwx => C5.out wx hwx) ?_
  refine wpL_run1 (x := .tmp 2) (ptr b2) (.agg c2.toArray) (by kernel_rfl) (by kernel_rfl) (by kernel_rfl) (by kernel_rfl) (by kernel_rfl) (fun wx ρ hwx h0 hc => load_cn c2 L2.out rfl ρ (R2.out wx hwx) h0) ?_
  refine wpL_run1 (x := .tmp 3) (ptr b3) (.agg c3.toArray) (by kernel_rfl) (by kernel_rfl) (by kernel_rfl) (by kernel_rfl) (by kernel_rfl) (fun wx ρ hwx h0 hc => load_cn c3 L3.out rfl ρ (R3.out wx hwx) h0) ?_
  refine wpL_fn (.bool ba) [.agg c2.toArray, .agg c3.toArray] rfl (by kernel_rfl) (by kernel_rfl) (by kernel_rfl) (by kernel_rfl) (fun _ _ => by simp [go_sem]) (fun wx hwx => C6.out wx hwx) ?_
  refine wpL_run2 (x := .tmp 23) (y := .tmp 26) (.bool ba) (.bool ba) (.bool true) (by kernel_rfl) (by kernel_rfl) (by kernel_rfl) (by kernel_rfl) (by kernel_rfl) (by kernel_rfl) (fun wx ρ hwx h0 h1 hc => by simp [go_sem, h0, h1]) ?_
  refine wpL_run2 (x := .tmp 20) (y := .tmp 27) (.bool true) (.bool true) (.bool true) (by kernel_rfl) (by kernel_rfl) (by kernel_rfl) (by kernel_rfl) (by kernel_rfl) (by kernel_rfl) (fun wx ρ hwx h0 h1 hc => by simp [go_sem, h0, h1, hc]) ?_
  refine wpL_assign (.bool true) rfl (by kernel_rfl) (by kernel_rfl) (by kernel_rfl) (by kernel_rfl) ?_
  refine wpL_end (by kernel_rfl) (fun w2 hw2 => ?_)
  simp only [FinL, setL, List.set_cons_zero, List.set_cons_succ]
  have HE := Lib.hid (H1.out.later hw2).below
  clear hw2 R2 R3 C1 C2 C3 C4 C5 C6 SH
  go_wp2
  go_ret
  exact ⟨rfl, HE.out⟩
end Pic
end Go.Proofs.Ytcbkhgjjbponhaa

end
section
namespace Go.Own
open Go.RowKit
section
variable {α : Type}
/-- an act in memory -/
def inE (enc : α → List Value) (Fit : α → Prop) : InT α := fun a _ _ cs => cs = enc a ∧ Fit a
/-- .. where the number of cells hangs on what fits -/
theorem acts_inF {enc : α → List Value} {Fit : α → Prop} {c : Nat} (hc : ∀ a, Fit a → (enc a).length = c) {l : List α} {B : Nat} {w : World} {ao : Option Addr} {n cap : Nat} (h : inSlice c (inE enc Fit) l B w [.slice ao n cap]) :
    n = l.length ∧ n ≤ cap ∧ cap ≤ maxLen ∧ (ao = none → cap = 0) ∧ (l ≠ [] → ∃ b o, ao = some ⟨b, o, none⟩ ∧ b < B ∧ ∀ w' : World, (∀ k, k < B → w'.heap[k]? = w.heap[k]?) → ∀ k (hk : k < l.length), w'.rangeAt b (o + k * c) (enc l[k]) ∧ Fit l[k]) := by
  obtain ⟨ao', cap', h1, h2, h3, h4, h5⟩ := h
  simp only [List.cons.injEq, Value.slice.injEq, and_true] at h1
  obtain ⟨rfl, rfl, rfl⟩ := h1
  refine ⟨rfl, h2, h3, h4, fun hne => ?_⟩
  rcases h5 with rfl | ⟨b, o, e, hb, hs, hcc⟩
  · exact absurd rfl hne
  · refine ⟨b, o, e, hb, fun w' hw' k hk => ?_⟩
    obtain ⟨cs', g1, g2, g3⟩ := hcc k hk
    obtain ⟨rfl, q6⟩ := g3
    refine ⟨fun j v hv => ?_, q6⟩
    have hj : j < c := by rw [← hc l[k] q6]; exact (List.getElem?_eq_some_iff.1 hv).1
    have := (World.cell?_of_block (w := w) (hw' b hb)).trans (g2 j hj)
    rw [Nat.add_assoc, this, hv]
end
end Go.Own

end
section
namespace Go.Proofs.Ytcbkhgjjbponhaa
open Go.RowKit Go.Own
namespace Pic
open Go.PicM Byt
def inCn : InT Cn := inE cC Fits
theorem cns_flat {X : List Cn} {w : World} {g o : Nat} (h : ∀ k (hk : k < X.length), w.rangeAt g (o + k * 4) (cC X[k])) : ∀ j u, (X.flatMap cC)[j]? = some u → w.cell? ⟨g, o + j, none⟩ = some u := by
  intro j u hu
  have hl := flat_length cC 4 X (fun _ _ => rfl)
  have hj := (List.getElem?_eq_some_iff.1 hu).1
  rw [hl] at hj
  have hk : j / 4 < X.length := Nat.div_lt_of_lt_mul (by rw [Nat.mul_comm]; exact hj)
  have e : j / 4 * 4 + j % 4 = j := by rw [Nat.mul_comm]; exact Nat.div_add_mod j 4
  have hr := h (j / 4) hk (j % 4) u (by
    rw [← flat_at cC 4 X (fun _ _ => rfl) (j / 4) X[j / 4] (List.getElem?_eq_getElem hk) (j % 4) (Nat.mod_lt _ (by decide)), e]
    exact hu)
  rw [Nat.add_assoc, e] at hr
  exact hr
/-- the first 200 of what came in -/
theorem cns_in {a0 : Option Addr} {len0 cap0 : Nat} {L : List Cn} {w : World} (w0 : inSlice 4 inCn L w.heap.size w [.slice a0 len0 cap0]) :
    ∃ (m : Nat) (X : List Cn), m = min len0 200 ∧ m ≤ len0 ∧ m ≤ 200 ∧ len0 ≤ cap0 ∧ cap0 ≤ 9223372036854775807 ∧ (a0 = none → cap0 = 0) ∧ X.length = m ∧ (∀ c ∈ X, Fits c) ∧ (m = 0 ∨ ∃ g o, a0 = some ⟨g, o, none⟩ ∧ ∀ wx, Below w.heap.size w wx → ∀ j u, (X.flatMap cC)[j]? = some u → wx.cell? ⟨g, o + j, none⟩ = some u) := by
  obtain ⟨hlen, hcap, hmax, hnil, hat⟩ := acts_inF (fun a h => cC_len a) w0
  have hmax2 : cap0 ≤ 9223372036854775807 := by unfold maxLen at hmax; omega
  refine ⟨min len0 200, L.take (min len0 200), rfl, by omega, by omega, hcap, hmax2, hnil, by rw [List.length_take]; omega, ?_, ?_⟩
  · intro r hr
    obtain ⟨i, hi, he⟩ := List.getElem_of_mem (List.mem_of_mem_take hr)
    obtain ⟨b, o, _, _, h⟩ := hat (by intro e; rw [e] at hi; simp at hi)
    have := (h w (fun _ _ => rfl) i hi).2
    rw [he] at this
    exact this
  · by_cases hne : L = []
    · left
      rw [hlen, hne]; rfl
    · obtain ⟨b, o, e, _, h⟩ := hat hne
      refine .inr ⟨b, o, e, fun wx hwx j u hu => ?_⟩
      refine cns_flat (fun k hk => ?_) j u hu
      have hk1 : k < min len0 200 := by rw [List.length_take] at hk; omega
      have hk0 : k < L.length := by omega
      have := (h wx (fun k hk => hwx.block k hk) k hk0).1
      rw [List.getElem_take]
      exact this
theorem cutK_cn {ao : Option Addr} {m cap : Nat} (k : Nat) (hk : k ≤ m) (hm : m ≤ cap) (hc : cap ≤ 9223372036854775807) {op : Oper} {x y : Operand} (ho : op.op = .slice 28 x none (some y) none) (ρ : Operand → Value) (w : World) (h0 : ρ x = .slice ao m cap) (h1 : ρ y = .int .i64 (k : Int)) (hno : ao = none → cap = 0) : (execOp ρ op).run Try.prog w = .ok (.value (.slice ao k cap)) w := by
  have e1 : (0 : Int) ≤ (k : Int) := by omega
  have e2 : (k : Int) ≤ (cap : Int) := by omega
  have hu := Try.underlying28
  cases ao with
  | none =>
    have := hno rfl
    subst this
    obtain rfl : k = 0 := by omega
    obtain rfl : m = 0 := by omega
    simp [execOp, ho, h0, h1, go_sem, hu]
  | some a => simp [execOp, ho, h0, h1, go_sem, e1, e2, hu]
/-- there is no best one, or there is -/
theorem best_cases (X : List Cn) : (bestI X = -1 ∧ ∀ i, i < X.length → gains (at_ X i) = false) ∨ ∃ t, t < X.length ∧ bestP X = t ∧ bestI X = (t : Int) ∧ gains (at_ X t) = true ∧ ∀ k, k < X.length → better (at_ X k) (at_ X t) = false := by
  rcases Nat.lt_or_ge (bestP X) X.length with h | h
  · have ht := best_top h
    exact .inr ⟨bestP X, h, rfl, by rw [bestI, if_pos h], ht.1, ht.2⟩
  · refine .inl ⟨by rw [bestI, if_neg (by omega)], fun i hi => ?_⟩
    cases hg : gains (at_ X i)
    · rfl
    · have := best_some hi hg
      omega
set_option maxHeartbeats 3200000 in
theorem walk_bests (a0 : Option Addr) (len0 cap0 : Nat) (L : List Cn) {w : World} (w0 : inSlice 4 inCn L w.heap.size w [.slice a0 len0 cap0]) (K : Kept w) : Calls Try.prog 4 #[.slice a0 len0 cap0] w (RetYes w) := by
  obtain ⟨m, X, hm, hm1, hm2, hcap, hmax, hnil, hXl, hXf, hwin⟩ := cns_in w0
  have hmin : min (len0 : Int) 200 = (m : Int) := by omega
  have NIL1 : Hid (a0 = none → cap0 = 0) := hnil
  have HWIN := Lib.hid hwin
  have RW : Hid (∀ wx, Below w.heap.size w wx → RdWin wx (.slice a0 m cap0) m (X.flatMap cC)) := by
    intro wx hwx
    rcases HWIN.out with h | ⟨g, o, e, hc⟩
    · exact ⟨a0, cap0, rfl, .inl h⟩
    · exact ⟨a0, cap0, rfl, .inr ⟨g, o, e, fun j u hu => hc wx hwx j u hu⟩⟩
  have HXL := Lib.hid hXl
  have HXF := Lib.hid hXf
  have SH := Lib.hid (shown_any K (Below.refl _ _))
  clear hwin hXl hXf w0 hm hnil HWIN
  obtain ⟨bi, hbi⟩ : ∃ x, x = bestI X := ⟨_, rfl⟩
  have HBI := Lib.hid hbi
  clear hbi
  go_enter Try.func4, Try.ntmps4
  go_wp2_with (refine wpList_val rfl (cutK_cn m hm1 hcap hmax rfl _ _ rfl rfl NIL1.out) ?_)
  refine SH.out.mono ?_
  rintro e w1 ⟨rfl, h⟩
  have HB := Lib.hid h
  clear h SH
  go_wp2_with (fail)
  refine (K.best X m _ HB.out HXF.out HXL.out (by omega) (RW.out _ HB.out)).mono ?_
  rw [← HBI.out]
  rintro e w2 ⟨rfl, h⟩
  have HB2 := Lib.hid (HB.out.trans (h.mono HB.out.size))
  clear h HB
  go_wp2_with (fail)
  refine (bestR_any X m _ _ HXL.out (by omega) (RW.out _ HB2.out)).mono ?_
  rw [← HBI.out]
  rintro e w3 ⟨rfl, h⟩
  have HB3 := Lib.hid (HB2.out.trans (h.mono HB2.out.size))
  clear h HB2
  go_wp2_with (fail)
  go_ret
  exact ⟨by simp, HB3.out⟩
set_option maxRecDepth 6000 in
set_option maxHeartbeats 6400000 in
theorem walk_tops (a0 : Option Addr) (len0 cap0 : Nat) (L : List Cn) {w : World} (w0 : inSlice 4 inCn L w.heap.size w [.slice a0 len0 cap0]) (K : Kept w) : Calls Try.prog 6 #[.slice a0 len0 cap0] w (RetYes w) := by
  obtain ⟨m, X, hm, hm1, hm2, hcap, hmax, hnil, hXl, hXf, hwin⟩ := cns_in w0
  have hmin : min (len0 : Int) 200 = (m : Int) := by omega
  have NIL1 : Hid (a0 = none → cap0 = 0) := hnil
  have HWIN := Lib.hid hwin
  have RW : Hid (∀ wx, Below w.heap.size w wx → RdWin wx (.slice a0 m cap0) m (X.flatMap cC)) := by
    intro wx hwx
    rcases HWIN.out with h | ⟨g, o, e, hc⟩
    · exact ⟨a0, cap0, rfl, .inl h⟩
    · exact ⟨a0, cap0, rfl, .inr ⟨g, o, e, fun j u hu => hc wx hwx j u hu⟩⟩
  have HXL := Lib.hid hXl
  have HXF := Lib.hid hXf
  have SH := Lib.hid (shown_any K (Below.refl _ _))
  clear hwin hXl hXf w0 hm hnil
  go_enter Try.func6, Try.ntmps6
  go_wp2_with (fail)
  refine SH.out.mono ?_
  rintro e w1 ⟨rfl, h⟩
  have HB := Lib.hid h
  clear h SH
  go_wp2_with (refine wpList_val rfl (cutK_cn m hm1 hcap hmax rfl _ _ rfl rfl NIL1.out) ?_)
  refine (K.best X m _ HB.out HXF.out HXL.out (by omega) (RW.out _ HB.out)).mono ?_
  rcases best_cases X with ⟨hb, hno⟩ | ⟨t, htm, _, hb, hgt, hno⟩
  · rw [hb]
    rintro e w2 ⟨rfl, h⟩
    have HB2 := Lib.hid (HB.out.trans (h.mono HB.out.size))
    have HNO := Lib.hid hno
    clear h HB hno hb
    have hg1 : ¬ ((-1 : Int) ≥ (m : Int)) := by omega
    go_wp2_with (fail)
    go_loopw [25] (fun v25 wr => ∃ i : Nat, i ≤ m ∧ v25 = .int .i64 (i : Int) ∧ Below w.heap.size w wr) (fun v25 _ => m - (intOf v25).toNat)
    case atStart => exact ⟨0, Nat.zero_le _, rfl, HB2.out⟩
    case round =>
      obtain ⟨i, hin, rfl, hbw⟩ := hrel
      have HB3 := Lib.hid hbw
      clear hbw HB2
      by_cases hi : (i : Int) < (m : Int)
      · have him : i < m := by omega
        rcases HWIN.out with h | ⟨g, o, rfl, hc⟩
        · omega
        obtain ⟨ci, hci⟩ : ∃ x, x = cC (at_ X i) := ⟨_, rfl⟩
        have UP : Hid (∀ wx, Below wr.heap.size wr wx → Below w.heap.size w wx) := fun wx hwx => HB3.out.trans (hwx.mono HB3.out.size)
        have LI : Hid (ci.length = 4) := by show _ = _; rw [hci]; rfl
        have RI : Hid (∀ wx, Below wr.heap.size wr wx → wx.rangeAt g (o + i * 4) ci) := by
          intro wx hwx
          rw [hci]
          exact cn_range (hc wx (UP.out wx hwx)) (by rw [HXL.out]; exact him)
        have GI : Hid (∀ wx, Below wr.heap.size wr wx → Calls Try.prog 12 #[.agg ci.toArray] wx fun e w' => e = .returned (.bool false) ∧ Below wx.heap.size wx w') := by
          intro wx hwx
          have h := K.gains (at_ X i) (UP.out wx hwx) (HXF.out _ (at_mem (by rw [HXL.out]; exact him)))
          rw [HNO.out i (by rw [HXL.out]; exact him)] at h
          rw [hci]
          exact h
        clear hci hc
        go_wp2_with (fail)
        refine wp_lax_list (by kernel_rfl) (by kernel_rfl) (by kernel_rfl) ?_
        refine wpL_move (.int .i64 (-1)) rfl (by kernel_rfl) (by kernel_rfl) (by kernel_rfl) (by kernel_rfl) ?_
        refine wpL_run1 (x := .tmp 28) (.int .i64 (-1)) (.bool true) (by kernel_rfl) (by kernel_rfl) (by kernel_rfl) (by kernel_rfl) (by kernel_rfl) (fun wx ρ hwx h0 hc => by simp [go_sem, h0, hc]) ?_
        refine wpL_move (.bool true) rfl (by kernel_rfl) (by kernel_rfl) (by kernel_rfl) (by kernel_rfl) ?_
        refine wpL_move (.slice (some ⟨g, o, none⟩) m cap0) rfl (by kernel_rfl) (by kernel_rfl) (by kernel_rfl) (by kernel_rfl) ?_
        refine wpL_move (.int .i64 (i : Int)) rfl (by kernel_rfl) (by kernel_rfl) (by kernel_rfl) (by kernel_rfl) ?_
        refine wpL_run2 (x := .tmp 31) (y := .tmp 32) (.slice (some ⟨g, o, none⟩) m cap0) (.int .i64 (i : Int)) (.pointer (some ⟨g, o + i * 4, none⟩)) (by kernel_rfl) (by kernel_rfl) (by kernel_rfl) (by kernel_rfl) (by kernel_rfl) (by kernel_rfl) (fun wx ρ hwx h0 h1 hc => idx_cn rfl him ρ wx h0 h1) ?_
        refine wpL_run1 (x := .tmp 33) (.pointer (some ⟨g, o + i * 4, none⟩)) (.agg ci.toArray) (by kernel_rfl) (by kernel_rfl) (by kernel_rfl) (by kernel_rfl) (by kernel_rfl) (fun wx ρ hwx h0 hc => load_cn ci LI.out rfl ρ (RI.out wx hwx) h0) ?_
        refine wpL_fn (.bool false) [.agg ci.toArray] rfl (by kernel_rfl) (by kernel_rfl) (by kernel_rfl) (by kernel_rfl) (fun _ _ => by simp [go_sem]) (fun wx hwx => GI.out wx hwx) ?_
        refine wpL_run2 (x := .tmp 30) (y := .tmp 35) (.bool true) (.bool false) (.bool false) (by kernel_rfl) (by kernel_rfl) (by kernel_rfl) (by kernel_rfl) (by kernel_rfl) (by kernel_rfl) (fun wx ρ hwx h0 h1 hc => by simp [go_sem, h0, h1, hc]) ?_
        refine wpL_move (.bool false) rfl (by kernel_rfl) (by kernel_rfl) (by kernel_rfl) (by kernel_rfl) ?_
        refine wpL_move (.int .i64 (-1)) rfl (by kernel_rfl) (by kernel_rfl) (by kernel_rfl) (by kernel_rfl) ?_
        refine wpL_run1 (x := .tmp 38) (.int .i64 (-1)) (.bool false) (by kernel_rfl) (by kernel_rfl) (by kernel_rfl) (by kernel_rfl) (by kernel_rfl) (fun wx ρ hwx h0 hc => by simp [go_sem, h0, hc]) ?_
        refine wpL_move (.bool false) rfl (by kernel_rfl) (by kernel_rfl) (by kernel_rfl) (by kernel_rfl) ?_
        refine wpL_skip (by kernel_rfl) (by kernel_rfl) ?_
        refine wpL_skip (by kernel_rfl) (by kernel_rfl) ?_
        refine wpL_skip (by kernel_rfl) (by kernel_rfl) ?_
        refine wpL_skip (by kernel_rfl) (by kernel_rfl) ?_
        refine wpL_skip (by kernel_rfl) (by kernel_rfl) ?_
        refine wpL_skip (by kernel_rfl) (by kernel_rfl) ?_
        refine wpL_skip (by kernel_rfl) (by kernel_rfl) ?_
        refine wpL_skip (by kernel_rfl) (by kernel_rfl) ?_
        refine wpL_skip (by kernel_rfl) (by kernel_rfl) ?_
        refine wpL_run2 (x := .tmp 40) (y := .tmp 49) (.bool false) (undef) (.bool false) (by kernel_rfl) (by kernel_rfl) (by kernel_rfl) (by kernel_rfl) (by kernel_rfl) (by kernel_rfl) (fun wx ρ hwx h0 h1 hc => by simp [go_sem, h0, h1, hc]) ?_
        refine wpL_run2 (x := .tmp 37) (y := .tmp 50) (.bool false) (.bool false) (.bool false) (by kernel_rfl) (by kernel_rfl) (by kernel_rfl) (by kernel_rfl) (by kernel_rfl) (by kernel_rfl) (fun wx ρ hwx h0 h1 hc => by simp [go_sem, h0, h1, hc]) ?_
        refine wpL_end (by kernel_rfl) (fun w4 hw4 => ?_)
        simp only [FinL, setL, List.set_cons_zero, List.set_cons_succ]
        have HB4 := Lib.hid (UP.out w4 hw4)
        clear hw4 RI GI UP
        go_wp2
        go_roundw
        case rel => exact ⟨i + 1, by omega, by go_num, HB4.out⟩
        case measure => simp [intOf]; omega
      · go_wp2_with (fail)
        go_ret
        exact ⟨rfl, HB3.out⟩
  · rw [hb]
    rintro e w2 ⟨rfl, h⟩
    have HB2 := Lib.hid (HB.out.trans (h.mono HB.out.size))
    have HNO := Lib.hid hno
    rw [HXL.out] at htm
    have ht0 : ¬ (t : Int) < 0 := by omega
    have ht1 : (t : Int) ≥ 0 := by omega
    have ht2 : ¬ (t : Int) < -1 := by omega
    have ht3 : ¬ (t : Int) ≥ (m : Int) := by omega
    rcases HWIN.out with h | ⟨g, o, rfl, hc⟩
    · omega
    have HC := Lib.hid hc
    obtain ⟨ct, hct⟩ : ∃ x, x = cC (at_ X t) := ⟨_, rfl⟩
    have LT : Hid (ct.length = 4) := by show _ = _; rw [hct]; rfl
    have RT0 : Hid (∀ wx, Below w.heap.size w wx → wx.rangeAt g (o + t * 4) ct) := by
      intro wx hwx
      rw [hct]
      exact cn_range (HC.out wx hwx) (by rw [HXL.out]; exact htm)
    have GT : Hid (∀ wx, Below w.heap.size w wx → Calls Try.prog 12 #[.agg ct.toArray] wx fun e w' => e = .returned (.bool true) ∧ Below wx.heap.size wx w') := by
      intro wx hwx
      have h := K.gains (at_ X t) hwx (HXF.out _ (at_mem (by rw [HXL.out]; exact htm)))
      rw [hgt] at h
      rw [hct]
      exact h
    have BT : Hid (∀ i, i < m → ∀ wx, Below w.heap.size w wx → Calls Try.prog 14 #[.agg (cC (at_ X i)).toArray, .agg ct.toArray] wx fun e w' => e = .returned (.bool false) ∧ Below wx.heap.size wx w') := by
      intro i hi wx hwx
      have h := K.better (at_ X i) (at_ X t) hwx (HXF.out _ (at_mem (by rw [HXL.out]; exact hi))) (HXF.out _ (at_mem (by rw [HXL.out]; exact htm)))
      rw [HNO.out i (by rw [HXL.out]; exact hi)] at h
      rw [hct]
      exact h
    clear h HB hno hb HNO hgt hct hc RW HWIN
    go_wp2_with (fail)
    go_loopw [25] (fun v25 wr => ∃ i : Nat, i ≤ m ∧ v25 = .int .i64 (i : Int) ∧ Below w.heap.size w wr) (fun v25 _ => m - (intOf v25).toNat)
    case atStart => exact ⟨0, Nat.zero_le _, rfl, HB2.out⟩
    case round =>
      obtain ⟨i, hin, rfl, hbw⟩ := hrel
      have HB3 := Lib.hid hbw
      clear hbw HB2
      by_cases hi : (i : Int) < (m : Int)
      · have him : i < m := by omega
        obtain ⟨ci, hci⟩ : ∃ x, x = cC (at_ X i) := ⟨_, rfl⟩
        have UP : Hid (∀ wx, Below wr.heap.size wr wx → Below w.heap.size w wx) := fun wx hwx => HB3.out.trans (hwx.mono HB3.out.size)
        have LI : Hid (ci.length = 4) := by show _ = _; rw [hci]; rfl
        have RI : Hid (∀ wx, Below wr.heap.size wr wx → wx.rangeAt g (o + i * 4) ci) := by
          intro wx hwx
          rw [hci]
          exact cn_range (HC.out wx (UP.out wx hwx)) (by rw [HXL.out]; exact him)
        have RT : Hid (∀ wx, Below wr.heap.size wr wx → wx.rangeAt g (o + t * 4) ct) := fun wx hwx => RT0.out wx (UP.out wx hwx)
        have BI : Hid (∀ wx, Below wr.heap.size wr wx → Calls Try.prog 14 #[.agg ci.toArray, .agg ct.toArray] wx fun e w' => e = .returned (.bool false) ∧ Below wx.heap.size wx w') := by rw [hci]; exact fun wx hwx => BT.out i him wx (UP.out wx hwx)
        clear hci
        go_wp2_with (fail)
        refine wp_lax_list (by kernel_rfl) (by kernel_rfl) (by kernel_rfl) ?_
        refine wpL_move (.int .i64 (t : Int)) rfl (by kernel_rfl) (by kernel_rfl) (by kernel_rfl) (by kernel_rfl) ?_
        refine wpL_run1 (x := .tmp 28) (.int .i64 (t : Int)) (.bool false) (by kernel_rfl) (by kernel_rfl) (by kernel_rfl) (by kernel_rfl) (by kernel_rfl) (fun wx ρ hwx h0 hc => by simp [h0, hc, go_sem, ht0]) ?_
        refine wpL_move (.bool false) rfl (by kernel_rfl) (by kernel_rfl) (by kernel_rfl) (by kernel_rfl) ?_
        refine wpL_skip (by kernel_rfl) (by kernel_rfl) ?_
        refine wpL_skip (by kernel_rfl) (by kernel_rfl) ?_
        refine wpL_skip (by kernel_rfl) (by kernel_rfl) ?_
        refine wpL_skip (by kernel_rfl) (by kernel_rfl) ?_
        refine wpL_skip (by kernel_rfl) (by kernel_rfl) ?_
        refine wpL_run2 (x := .tmp 30) (y := .tmp 35) (.bool false) (undef) (.bool false) (by kernel_rfl) (by kernel_rfl) (by kernel_rfl) (by kernel_rfl) (by kernel_rfl) (by kernel_rfl) (fun wx ρ hwx h0 h1 hc => by simp [go_sem, h0, h1, hc]) ?_
        refine wpL_move (.bool false) rfl (by kernel_rfl) (by kernel_rfl) (by kernel_rfl) (by kernel_rfl) ?_
        refine wpL_move (.int .i64 (t : Int)) rfl (by kernel_rfl) (by kernel_rfl) (by kernel_rfl) (by kernel_rfl) ?_
        refine wpL_run1 (x := .tmp 38) (.int .i64 (t : Int)) (.bool true) (by kernel_rfl) (by kernel_rfl) (by kernel_rfl) (by kernel_rfl) (by kernel_rfl) (fun wx ρ hwx h0 hc => by simp [h0, hc, go_sem, ht1]) ?_
        refine wpL_move (.bool true) rfl (by kernel_rfl) (by kernel_rfl) (by kernel_rfl) (by kernel_rfl) ?_
        refine wpL_move (.slice (some ⟨g, o, none⟩) m cap0) rfl (by kernel_rfl) (by kernel_rfl) (by kernel_rfl) (by kernel_rfl) ?_
        refine wpL_move (.int .i64 (i : Int)) rfl (by kernel_rfl) (by kernel_rfl) (by kernel_rfl) (by kernel_rfl) ?_
        refine wpL_run2 (x := .tmp 41) (y := .tmp 42) (.slice (some ⟨g, o, none⟩) m cap0) (.int .i64 (i : Int)) (.pointer (some ⟨g, o + i * 4, none⟩)) (by kernel_rfl) (by kernel_rfl) (by kernel_rfl) (by kernel_rfl) (by kernel_rfl) (by kernel_rfl) (fun wx ρ hwx h0 h1 hc => idx_cn rfl him ρ wx h0 h1) ?_
        refine wpL_run1 (x := .tmp 43) (.pointer (some ⟨g, o + i * 4, none⟩)) (.agg ci.toArray) (by kernel_rfl) (by kernel_rfl) (by kernel_rfl) (by kernel_rfl) (by kernel_rfl) (fun wx ρ hwx h0 hc => load_cn ci LI.out rfl ρ (RI.out wx hwx) h0) ?_
        refine wpL_move (.slice (some ⟨g, o, none⟩) m cap0) rfl (by kernel_rfl) (by kernel_rfl) (by kernel_rfl) (by kernel_rfl) ?_
        refine wpL_move (.int .i64 (t : Int)) rfl (by kernel_rfl) (by kernel_rfl) (by kernel_rfl) (by kernel_rfl) ?_
        refine wpL_run2 (x := .tmp 45) (y := .tmp 46) (.slice (some ⟨g, o, none⟩) m cap0) (.int .i64 (t : Int)) (.pointer (some ⟨g, o + t * 4, none⟩)) (by kernel_rfl) (by kernel_rfl) (by kernel_rfl) (by kernel_rfl) (by kernel_rfl) (by kernel_rfl) (fun wx ρ hwx h0 h1 hc => idx_cn rfl htm ρ wx h0 h1) ?_
        refine wpL_run1 (x := .tmp 47) (.pointer (some ⟨g, o + t * 4, none⟩)) (.agg ct.toArray) (by kernel_rfl) (by kernel_rfl) (by kernel_rfl) (by kernel_rfl) (by kernel_rfl) (fun wx ρ hwx h0 hc => load_cn ct LT.out rfl ρ (RT.out wx hwx) h0) ?_
        refine wpL_fn (.bool false) [.agg ci.toArray, .agg ct.toArray] rfl (by kernel_rfl) (by kernel_rfl) (by kernel_rfl) (by kernel_rfl) (fun _ _ => by simp [go_sem]) (fun wx hwx => BI.out wx hwx) ?_
        refine wpL_run2 (x := .tmp 40) (y := .tmp 49) (.bool true) (.bool false) (.bool false) (by kernel_rfl) (by kernel_rfl) (by kernel_rfl) (by kernel_rfl) (by kernel_rfl) (by kernel_rfl) (fun wx ρ hwx h0 h1 hc => by simp [go_sem, h0, h1, hc]) ?_
        refine wpL_run2 (x := .tmp 37) (y := .tmp 50) (.bool false) (.bool false) (.bool false) (by kernel_rfl) (by kernel_rfl) (by kernel_rfl) (by kernel_rfl) (by kernel_rfl) (by kernel_rfl) (fun wx ρ hwx h0 h1 hc => by simp [go_sem, h0, h1, hc]) ?_
        refine wpL_end (by kernel_rfl) (fun w4 hw4 => ?_)
        simp only [FinL, setL, List.set_cons_zero, List.set_cons_succ]
        have HB4 := Lib.hid (UP.out w4 hw4)
        clear hw4 RI RT BI UP
        go_wp2
        go_roundw
        case rel => exact ⟨i + 1, by omega, by go_num, HB4.out⟩
        case measure => simp [intOf]; omega
      · go_wp2_with (first
          | (refine wpList_val rfl (idx_cn rfl (b := g) (g := o) (k := t) (n := m) (c := cap0) htm _ _ rfl rfl) ?_)
          | (refine wpList_val rfl (load_cn ct LT.out rfl _ (b := g) (k := o + t * 4) (RT0.out _ HB3.out) rfl) ?_))
        refine (GT.out _ HB3.out).mono ?_
        rintro e w5 ⟨rfl, h⟩
        have HB5 := Lib.hid (HB3.out.trans (h.mono HB3.out.size))
        clear h
        go_wp2_with (fail)
        go_ret
        exact ⟨rfl, HB5.out⟩
end Pic
end Go.Proofs.Ytcbkhgjjbponhaa

end
section
namespace Go.Proofs.Ytcbkhgjjbponhaa
open Go.RowKit Go.Own
namespace Pic
open Go.PicM Byt
set_option maxRecDepth 8000 in
set_option maxHeartbeats 12800000 in
theorem walk_order {w : World} (a b c : Cn) (fa : Fits a) (fb : Fits b) (fc : Fits c) (K : Kept w) : Calls Try.prog 5 #[cV a, cV b, cV c] w (RetYes w) := by
  have hbox := (((Own.St.start w).boxV 24 (cC a)).boxV 24 (cC b)).boxV 24 (cC c)
  obtain ⟨c3, hc3⟩ : ∃ x, x = cC a := ⟨_, rfl⟩
  obtain ⟨c4, hc4⟩ : ∃ x, x = cC b := ⟨_, rfl⟩
  obtain ⟨c5, hc5⟩ : ∃ x, x = cC c := ⟨_, rfl⟩
  obtain ⟨b3, hb3⟩ : ∃ x, x = w.heap.size := ⟨_, rfl⟩
  obtain ⟨wa, hwa⟩ : ∃ x, x = w.alloc (.cells c3.toArray 24) := ⟨_, rfl⟩
  obtain ⟨b4, hb4⟩ : ∃ x, x = wa.heap.size := ⟨_, rfl⟩
  obtain ⟨wb, hwb⟩ : ∃ x, x = wa.alloc (.cells c4.toArray 24) := ⟨_, rfl⟩
  obtain ⟨b5, hb5⟩ : ∃ x, x = wb.heap.size := ⟨_, rfl⟩
  obtain ⟨w1, hw1⟩ : ∃ x, x = wb.alloc (.cells c5.toArray 24) := ⟨_, rfl⟩
  have hb1 : Own.St w.heap.size w w1 [AVals b5 24 c5, AVals b4 24 c4, AVals b3 24 c3] := by rw [hw1, hb5, hwb, hb4, hwa, hb3, hc3, hc4, hc5]; exact hbox
  have L3 : Hid (c3.length = 4) := by show _ = _; rw [hc3]; rfl
  have L4 : Hid (c4.length = 4) := by show _ = _; rw [hc4]; rfl
  have L5 : Hid (c5.length = 4) := by show _ = _; rw [hc5]; rfl
  have UP : ∀ wx, Below w1.heap.size w1 wx → Below w.heap.size w wx := fun wx hwx => (hb1.later hwx).below
  have SH := Lib.hid (shown_any K (w := w1) (UP w1 (Below.refl _ _)))
  obtain ⟨ga, hga⟩ : ∃ x, x = gains a := ⟨_, rfl⟩
  obtain ⟨gb, hgb⟩ : ∃ x, x = gains b := ⟨_, rfl⟩
  obtain ⟨x, hx⟩ : ∃ x, x = better a b := ⟨_, rfl⟩
  obtain ⟨y, hy⟩ : ∃ x, x = better b c := ⟨_, rfl⟩
  obtain ⟨z, hz⟩ : ∃ x, x = better b a := ⟨_, rfl⟩
  obtain ⟨u, hu⟩ : ∃ x, x = better a c := ⟨_, rfl⟩
  have GA0 : Hid (∀ wx, Below w1.heap.size w1 wx → Calls Try.prog 12 #[.agg c3.toArray] wx fun e w' => e = .returned (.bool ga) ∧ Below wx.heap.size wx w') := by rw [hc3, hga]; exact fun wx hwx => K.gains a (UP wx hwx) fa
  have GB0 : Hid (∀ wx, Below w1.heap.size w1 wx → Calls Try.prog 12 #[.agg c4.toArray] wx fun e w' => e = .returned (.bool gb) ∧ Below wx.heap.size wx w') := by rw [hc4, hgb]; exact fun wx hwx => K.gains b (UP wx hwx) fb
  have P33 : Hid (∀ wx, Below w1.heap.size w1 wx → Calls Try.prog 14 #[.agg c3.toArray, .agg c3.toArray] wx fun e w' => e = .returned (.bool false) ∧ Below wx.heap.size wx w') := by
    intro wx hwx
    have h := K.better a a (UP wx hwx) fa fa
    rw [better_self] at h
    rw [hc3]
    exact h
  have P34 : Hid (∀ wx, Below w1.heap.size w1 wx → Calls Try.prog 14 #[.agg c3.toArray, .agg c4.toArray] wx fun e w' => e = .returned (.bool x) ∧ Below wx.heap.size wx w') := by rw [hc3, hc4, hx]; exact fun wx hwx => K.better a b (UP wx hwx) fa fb
  have P43 : Hid (∀ wx, Below w1.heap.size w1 wx → Calls Try.prog 14 #[.agg c4.toArray, .agg c3.toArray] wx fun e w' => e = .returned (.bool z) ∧ Below wx.heap.size wx w') := by rw [hc3, hc4, hz]; exact fun wx hwx => K.better b a (UP wx hwx) fb fa
  have P45 : Hid (∀ wx, Below w1.heap.size w1 wx → Calls Try.prog 14 #[.agg c4.toArray, .agg c5.toArray] wx fun e w' => e = .returned (.bool y) ∧ Below wx.heap.size wx w') := by rw [hc4, hc5, hy]; exact fun wx hwx => K.better b c (UP wx hwx) fb fc
  have P35 : Hid (∀ wx, Below w1.heap.size w1 wx → Calls Try.prog 14 #[.agg c3.toArray, .agg c5.toArray] wx fun e w' => e = .returned (.bool u) ∧ Below wx.heap.size wx w') := by rw [hc3, hc5, hu]; exact fun wx hwx => K.better a c (UP wx hwx) fa fc
  have R30 : Hid (∀ wx, Below w1.heap.size w1 wx → wx.rangeAt b3 0 c3) := fun wx hwx => (hb1.later hwx).boxRange 2 rfl
  have R40 : Hid (∀ wx, Below w1.heap.size w1 wx → wx.rangeAt b4 0 c4) := fun wx hwx => (hb1.later hwx).boxRange 1 rfl
  have R50 : Hid (∀ wx, Below w1.heap.size w1 wx → wx.rangeAt b5 0 c5) := fun wx hwx => (hb1.later hwx).boxRange 0 rfl
  obtain ⟨sa, hsa⟩ : ∃ x, x = a.seg := ⟨_, rfl⟩
  obtain ⟨sb, hsb⟩ : ∃ x, x = b.seg := ⟨_, rfl⟩
  have D3 : Hid (∀ wx, Below w1.heap.size w1 wx → wx.cell? ⟨b3, 0, none⟩ = some (.int .i64 sa)) := fun wx hwx => ((hb1.later hwx).cellV 2 rfl 0 (by rw [hc3, hsa]; rfl)).1
  have D4 : Hid (∀ wx, Below w1.heap.size w1 wx → wx.cell? ⟨b4, 0, none⟩ = some (.int .i64 sb)) := fun wx hwx => ((hb1.later hwx).cellV 1 rfl 0 (by rw [hc4, hsb]; rfl)).1
  have HTOT : Hid (ga = true → gb = true → sa ≠ sb → x = true ∨ z = true) := by rw [hga, hgb, hsa, hsb, hx, hz]; exact better_total
  have HASY : Hid (x = true → z = false) := by rw [hx, hz]; exact better_asym
  have HTRA : Hid (x = true → y = true → u = true) := by rw [hx, hy, hu]; exact better_trans
  have hb4' : b4 = b3 + 1 := by rw [hb4, hwa, hb3]; exact Array.size_push ..
  have hb5' : b5 = b3 + 1 + 1 := by rw [hb5, hwb, ← hb4', hb4]; exact Array.size_push ..
  have HWA := Lib.hid hwa
  have HWB := Lib.hid hwb
  have HB3 := Lib.hid hb3
  have HB4 := Lib.hid hb4'
  have HB5 := Lib.hid hb5'
  have HW1 := Lib.hid hw1
  have H1 := Lib.hid hb1
  show Calls Try.prog _ #[.agg (cC a).toArray, .agg (cC b).toArray, .agg (cC c).toArray] w _
  rw [← hc3, ← hc4, ← hc5]
  clear hbox hc3 hc4 hc5 hb3 hwa hb4 hb4' hwb hb5 hb5' hw1 hb1 UP hga hgb hx hy hz hu K fa fb fc hsa hsb
  go_enter Try.func5, Try.ntmps5
  go_wp2_with (fail)
  rw [← HWA.out, ← HB3.out, ← HWB.out, ← HW1.out, ← HB5.out, ← HB4.out]
  refine SH.out.mono ?_
  rintro e w2 ⟨rfl, h2⟩
  have U2 := Lib.hid h2
  clear h2 SH
  cases x
  · go_wp2_with (first
      | (refine wpList_val rfl (load_cn c3 L3.out rfl _ (b := b3) (k := 0) (R30.out _ U2.out) rfl) ?_)
      | (refine wpList_val rfl (load_cn c4 L4.out rfl _ (b := b4) (k := 0) (R40.out _ U2.out) rfl) ?_)
      | (refine wpList_val rfl (load_cn c5 L5.out rfl _ (b := b5) (k := 0) (R50.out _ U2.out) rfl) ?_))
    refine (P33.out _ U2.out).mono ?_
    rintro e vV0 ⟨rfl, h⟩
    have V0 := Lib.hid (U2.out.trans (h.mono U2.out.size))
    clear h
    go_wp2_with (first
      | (refine wpList_val rfl (load_cn c3 L3.out rfl _ (b := b3) (k := 0) (R30.out _ V0.out) rfl) ?_)
      | (refine wpList_val rfl (load_cn c4 L4.out rfl _ (b := b4) (k := 0) (R40.out _ V0.out) rfl) ?_)
      | (refine wpList_val rfl (load_cn c5 L5.out rfl _ (b := b5) (k := 0) (R50.out _ V0.out) rfl) ?_))
    refine (P34.out _ V0.out).mono ?_
    rintro e vV1 ⟨rfl, h⟩
    have V1 := Lib.hid (V0.out.trans (h.mono V0.out.size))
    clear h
    go_wp2_with (first
      | (refine wpList_val rfl (load_cn c3 L3.out rfl _ (b := b3) (k := 0) (R30.out _ V1.out) rfl) ?_)
      | (refine wpList_val rfl (load_cn c4 L4.out rfl _ (b := b4) (k := 0) (R40.out _ V1.out) rfl) ?_)
      | (refine wpList_val rfl (load_cn c5 L5.out rfl _ (b := b5) (k := 0) (R50.out _ V1.out) rfl) ?_))
    refine (P34.out _ V1.out).mono ?_
    rintro e vU4 ⟨rfl, h⟩
    have U4 := Lib.hid (V1.out.trans (h.mono V1.out.size))
    clear h
    have d3 := D3.out _ U4.out
    have d4 := D4.out _ U4.out
    by_cases hs : sa = sb
    · subst hs
      go_wp2_with (fail)
      go_ret
      exact ⟨rfl, (H1.out.later U4.out).below⟩
    · have hse : (sa == sb) = false := by simp [hs]
      go_wp2_with (first
        | (refine wpList_val rfl (load_cn c3 L3.out rfl _ (b := b3) (k := 0) (R30.out _ U4.out) rfl) ?_)
        | (refine wpList_val rfl (load_cn c4 L4.out rfl _ (b := b4) (k := 0) (R40.out _ U4.out) rfl) ?_)
        | (refine wpList_val rfl (load_cn c5 L5.out rfl _ (b := b5) (k := 0) (R50.out _ U4.out) rfl) ?_))
      refine (GA0.out _ U4.out).mono ?_
      rintro e vU5 ⟨rfl, h⟩
      have U5 := Lib.hid (U4.out.trans (h.mono U4.out.size))
      clear h
      cases ga
      · go_wp2_with (fail)
        go_ret
        exact ⟨rfl, (H1.out.later U5.out).below⟩
      · go_wp2_with (first
          | (refine wpList_val rfl (load_cn c3 L3.out rfl _ (b := b3) (k := 0) (R30.out _ U5.out) rfl) ?_)
          | (refine wpList_val rfl (load_cn c4 L4.out rfl _ (b := b4) (k := 0) (R40.out _ U5.out) rfl) ?_)
          | (refine wpList_val rfl (load_cn c5 L5.out rfl _ (b := b5) (k := 0) (R50.out _ U5.out) rfl) ?_))
        refine (GB0.out _ U5.out).mono ?_
        rintro e vU6 ⟨rfl, h⟩
        have U6 := Lib.hid (U5.out.trans (h.mono U5.out.size))
        clear h
        cases gb
        · go_wp2_with (fail)
          go_ret
          exact ⟨rfl, (H1.out.later U6.out).below⟩
        · have hz : z = true := by have h := HTOT.out; simpa [hs] using h
          subst hz
          go_wp2_with (first
            | (refine wpList_val rfl (load_cn c3 L3.out rfl _ (b := b3) (k := 0) (R30.out _ U6.out) rfl) ?_)
            | (refine wpList_val rfl (load_cn c4 L4.out rfl _ (b := b4) (k := 0) (R40.out _ U6.out) rfl) ?_)
            | (refine wpList_val rfl (load_cn c5 L5.out rfl _ (b := b5) (k := 0) (R50.out _ U6.out) rfl) ?_))
          refine (P34.out _ U6.out).mono ?_
          rintro e vU7 ⟨rfl, h⟩
          have U7 := Lib.hid (U6.out.trans (h.mono U6.out.size))
          clear h
          go_wp2_with (first
            | (refine wpList_val rfl (load_cn c3 L3.out rfl _ (b := b3) (k := 0) (R30.out _ U7.out) rfl) ?_)
            | (refine wpList_val rfl (load_cn c4 L4.out rfl _ (b := b4) (k := 0) (R40.out _ U7.out) rfl) ?_)
            | (refine wpList_val rfl (load_cn c5 L5.out rfl _ (b := b5) (k := 0) (R50.out _ U7.out) rfl) ?_))
          refine (P43.out _ U7.out).mono ?_
          rintro e vU8 ⟨rfl, h⟩
          have U8 := Lib.hid (U7.out.trans (h.mono U7.out.size))
          clear h
          go_wp2_with (fail)
          go_ret
          exact ⟨rfl, (H1.out.later U8.out).below⟩
  · have hz : z = false := HASY.out rfl
    subst hz
    cases y
    · go_wp2_with (first
        | (refine wpList_val rfl (load_cn c3 L3.out rfl _ (b := b3) (k := 0) (R30.out _ U2.out) rfl) ?_)
        | (refine wpList_val rfl (load_cn c4 L4.out rfl _ (b := b4) (k := 0) (R40.out _ U2.out) rfl) ?_)
        | (refine wpList_val rfl (load_cn c5 L5.out rfl _ (b := b5) (k := 0) (R50.out _ U2.out) rfl) ?_))
      refine (P33.out _ U2.out).mono ?_
      rintro e vV0 ⟨rfl, h⟩
      have V0 := Lib.hid (U2.out.trans (h.mono U2.out.size))
      clear h
      go_wp2_with (first
        | (refine wpList_val rfl (load_cn c3 L3.out rfl _ (b := b3) (k := 0) (R30.out _ V0.out) rfl) ?_)
        | (refine wpList_val rfl (load_cn c4 L4.out rfl _ (b := b4) (k := 0) (R40.out _ V0.out) rfl) ?_)
        | (refine wpList_val rfl (load_cn c5 L5.out rfl _ (b := b5) (k := 0) (R50.out _ V0.out) rfl) ?_))
      refine (P34.out _ V0.out).mono ?_
      rintro e vV1 ⟨rfl, h⟩
      have V1 := Lib.hid (V0.out.trans (h.mono V0.out.size))
      clear h
      go_wp2_with (first
        | (refine wpList_val rfl (load_cn c3 L3.out rfl _ (b := b3) (k := 0) (R30.out _ V1.out) rfl) ?_)
        | (refine wpList_val rfl (load_cn c4 L4.out rfl _ (b := b4) (k := 0) (R40.out _ V1.out) rfl) ?_)
        | (refine wpList_val rfl (load_cn c5 L5.out rfl _ (b := b5) (k := 0) (R50.out _ V1.out) rfl) ?_))
      refine (P43.out _ V1.out).mono ?_
      rintro e vV2 ⟨rfl, h⟩
      have V2 := Lib.hid (V1.out.trans (h.mono V1.out.size))
      clear h
      go_wp2_with (first
        | (refine wpList_val rfl (load_cn c3 L3.out rfl _ (b := b3) (k := 0) (R30.out _ V2.out) rfl) ?_)
        | (refine wpList_val rfl (load_cn c4 L4.out rfl _ (b := b4) (k := 0) (R40.out _ V2.out) rfl) ?_)
        | (refine wpList_val rfl (load_cn c5 L5.out rfl _ (b := b5) (k := 0) (R50.out _ V2.out) rfl) ?_))
      refine (P34.out _ V2.out).mono ?_
      rintro e vV3 ⟨rfl, h⟩
      have V3 := Lib.hid (V2.out.trans (h.mono V2.out.size))
      clear h
      go_wp2_with (first
        | (refine wpList_val rfl (load_cn c3 L3.out rfl _ (b := b3) (k := 0) (R30.out _ V3.out) rfl) ?_)
        | (refine wpList_val rfl (load_cn c4 L4.out rfl _ (b := b4) (k := 0) (R40.out _ V3.out) rfl) ?_)
        | (refine wpList_val rfl (load_cn c5 L5.out rfl _ (b := b5) (k := 0) (R50.out _ V3.out) rfl) ?_))
      refine (P45.out _ V3.out).mono ?_
      rintro e vU4 ⟨rfl, h⟩
      have U4 := Lib.hid (V3.out.trans (h.mono V3.out.size))
      clear h
      have d3 := D3.out _ U4.out
      have d4 := D4.out _ U4.out
      by_cases hs : sa = sb
      · subst hs
        go_wp2_with (fail)
        go_ret
        exact ⟨rfl, (H1.out.later U4.out).below⟩
      · have hse : (sa == sb) = false := by simp [hs]
        go_wp2_with (first
          | (refine wpList_val rfl (load_cn c3 L3.out rfl _ (b := b3) (k := 0) (R30.out _ U4.out) rfl) ?_)
          | (refine wpList_val rfl (load_cn c4 L4.out rfl _ (b := b4) (k := 0) (R40.out _ U4.out) rfl) ?_)
          | (refine wpList_val rfl (load_cn c5 L5.out rfl _ (b := b5) (k := 0) (R50.out _ U4.out) rfl) ?_))
        refine (GA0.out _ U4.out).mono ?_
        rintro e vU5 ⟨rfl, h⟩
        have U5 := Lib.hid (U4.out.trans (h.mono U4.out.size))
        clear h
        cases ga
        · go_wp2_with (fail)
          go_ret
          exact ⟨rfl, (H1.out.later U5.out).below⟩
        · go_wp2_with (first
            | (refine wpList_val rfl (load_cn c3 L3.out rfl _ (b := b3) (k := 0) (R30.out _ U5.out) rfl) ?_)
            | (refine wpList_val rfl (load_cn c4 L4.out rfl _ (b := b4) (k := 0) (R40.out _ U5.out) rfl) ?_)
            | (refine wpList_val rfl (load_cn c5 L5.out rfl _ (b := b5) (k := 0) (R50.out _ U5.out) rfl) ?_))
          refine (GB0.out _ U5.out).mono ?_
          rintro e vU6 ⟨rfl, h⟩
          have U6 := Lib.hid (U5.out.trans (h.mono U5.out.size))
          clear h
          cases gb
          · go_wp2_with (fail)
            go_ret
            exact ⟨rfl, (H1.out.later U6.out).below⟩
          · go_wp2_with (first
              | (refine wpList_val rfl (load_cn c3 L3.out rfl _ (b := b3) (k := 0) (R30.out _ U6.out) rfl) ?_)
              | (refine wpList_val rfl (load_cn c4 L4.out rfl _ (b := b4) (k := 0) (R40.out _ U6.out) rfl) ?_)
              | (refine wpList_val rfl (load_cn c5 L5.out rfl _ (b := b5) (k := 0) (R50.out _ U6.out) rfl) ?_))
            refine (P34.out _ U6.out).mono ?_
            rintro e vU7 ⟨rfl, h⟩
            have U7 := Lib.hid (U6.out.trans (h.mono U6.out.size))
            clear h
            go_wp2_with (fail)
            go_ret
            exact ⟨rfl, (H1.out.later U7.out).below⟩
    · have hu : u = true := HTRA.out rfl rfl
      subst hu
      go_wp2_with (first
        | (refine wpList_val rfl (load_cn c3 L3.out rfl _ (b := b3) (k := 0) (R30.out _ U2.out) rfl) ?_)
        | (refine wpList_val rfl (load_cn c4 L4.out rfl _ (b := b4) (k := 0) (R40.out _ U2.out) rfl) ?_)
        | (refine wpList_val rfl (load_cn c5 L5.out rfl _ (b := b5) (k := 0) (R50.out _ U2.out) rfl) ?_))
      refine (P33.out _ U2.out).mono ?_
      rintro e vV0 ⟨rfl, h⟩
      have V0 := Lib.hid (U2.out.trans (h.mono U2.out.size))
      clear h
      go_wp2_with (first
        | (refine wpList_val rfl (load_cn c3 L3.out rfl _ (b := b3) (k := 0) (R30.out _ V0.out) rfl) ?_)
        | (refine wpList_val rfl (load_cn c4 L4.out rfl _ (b := b4) (k := 0) (R40.out _ V0.out) rfl) ?_)
        | (refine wpList_val rfl (load_cn c5 L5.out rfl _ (b := b5) (k := 0) (R50.out _ V0.out) rfl) ?_))
      refine (P34.out _ V0.out).mono ?_
      rintro e vV1 ⟨rfl, h⟩
      have V1 := Lib.hid (V0.out.trans (h.mono V0.out.size))
      clear h
      go_wp2_with (first
        | (refine wpList_val rfl (load_cn c3 L3.out rfl _ (b := b3) (k := 0) (R30.out _ V1.out) rfl) ?_)
        | (refine wpList_val rfl (load_cn c4 L4.out rfl _ (b := b4) (k := 0) (R40.out _ V1.out) rfl) ?_)
        | (refine wpList_val rfl (load_cn c5 L5.out rfl _ (b := b5) (k := 0) (R50.out _ V1.out) rfl) ?_))
      refine (P43.out _ V1.out).mono ?_
      rintro e vV2 ⟨rfl, h⟩
      have V2 := Lib.hid (V1.out.trans (h.mono V1.out.size))
      clear h
      go_wp2_with (first
        | (refine wpList_val rfl (load_cn c3 L3.out rfl _ (b := b3) (k := 0) (R30.out _ V2.out) rfl) ?_)
        | (refine wpList_val rfl (load_cn c4 L4.out rfl _ (b := b4) (k := 0) (R40.out _ V2.out) rfl) ?_)
        | (refine wpList_val rfl (load_cn c5 L5.out rfl _ (b := b5) (k := 0) (R50.out _ V2.out) rfl) ?_))
      refine (P34.out _ V2.out).mono ?_
      rintro e vV3 ⟨rfl, h⟩
      have V3 := Lib.hid (V2.out.trans (h.mono V2.out.size))
      clear h
      go_wp2_with (first
        | (refine wpList_val rfl (load_cn c3 L3.out rfl _ (b := b3) (k := 0) (R30.out _ V3.out) rfl) ?_)
        | (refine wpList_val rfl (load_cn c4 L4.out rfl _ (b := b4) (k := 0) (R40.out _ V3.out) rfl) ?_)
        | (refine wpList_val rfl (load_cn c5 L5.out rfl _ (b := b5) (k := 0) (R50.out _ V3.out) rfl) ?_))
      refine (P45.out _ V3.out).mono ?_
      rintro e vV4 ⟨rfl, h⟩
      have V4 := Lib.hid (V3.out.trans (h.mono V3.out.size))
      clear h
      go_wp2_with (first
        | (refine wpList_val rfl (load_cn c3 L3.out rfl _ (b := b3) (k := 0) (R30.out _ V4.out) rfl) ?_)
        | (refine wpList_val rfl (load_cn c4 L4.out rfl _ (b := b4) (k := 0) (R40.out _ V4.out) rfl) ?_)
        | (refine wpList_val rfl (load_cn c5 L5.out rfl _ (b := b5) (k := 0) (R50.out _ V4.out) rfl) ?_))
      refine (P35.out _ V4.out).mono ?_
      rintro e vU4 ⟨rfl, h⟩
      have U4 := Lib.hid (V4.out.trans (h.mono V4.out.size))
      clear h
      have d3 := D3.out _ U4.out
      have d4 := D4.out _ U4.out
      by_cases hs : sa = sb
      · subst hs
        go_wp2_with (fail)
        go_ret
        exact ⟨rfl, (H1.out.later U4.out).below⟩
      · have hse : (sa == sb) = false := by simp [hs]
        go_wp2_with (first
          | (refine wpList_val rfl (load_cn c3 L3.out rfl _ (b := b3) (k := 0) (R30.out _ U4.out) rfl) ?_)
          | (refine wpList_val rfl (load_cn c4 L4.out rfl _ (b := b4) (k := 0) (R40.out _ U4.out) rfl) ?_)
          | (refine wpList_val rfl (load_cn c5 L5.out rfl _ (b := b5) (k := 0) (R50.out _ U4.out) rfl) ?_))
        refine (GA0.out _ U4.out).mono ?_
        rintro e vU5 ⟨rfl, h⟩
        have U5 := Lib.hid (U4.out.trans (h.mono U4.out.size))
        clear h
        cases ga
        · go_wp2_with (fail)
          go_ret
          exact ⟨rfl, (H1.out.later U5.out).below⟩
        · go_wp2_with (first
            | (refine wpList_val rfl (load_cn c3 L3.out rfl _ (b := b3) (k := 0) (R30.out _ U5.out) rfl) ?_)
            | (refine wpList_val rfl (load_cn c4 L4.out rfl _ (b := b4) (k := 0) (R40.out _ U5.out) rfl) ?_)
            | (refine wpList_val rfl (load_cn c5 L5.out rfl _ (b := b5) (k := 0) (R50.out _ U5.out) rfl) ?_))
          refine (GB0.out _ U5.out).mono ?_
          rintro e vU6 ⟨rfl, h⟩
          have U6 := Lib.hid (U5.out.trans (h.mono U5.out.size))
          clear h
          cases gb
          · go_wp2_with (fail)
            go_ret
            exact ⟨rfl, (H1.out.later U6.out).below⟩
          · go_wp2_with (first
              | (refine wpList_val rfl (load_cn c3 L3.out rfl _ (b := b3) (k := 0) (R30.out _ U6.out) rfl) ?_)
              | (refine wpList_val rfl (load_cn c4 L4.out rfl _ (b := b4) (k := 0) (R40.out _ U6.out) rfl) ?_)
              | (refine wpList_val rfl (load_cn c5 L5.out rfl _ (b := b5) (k := 0) (R50.out _ U6.out) rfl) ?_))
            refine (P34.out _ U6.out).mono ?_
            rintro e vU7 ⟨rfl, h⟩
            have U7 := Lib.hid (U6.out.trans (h.mono U6.out.size))
            clear h
            go_wp2_with (fail)
            go_ret
            exact ⟨rfl, (H1.out.later U7.out).below⟩
end Pic
end Go.Proofs.Ytcbkhgjjbponhaa

end
