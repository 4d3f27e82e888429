/- The landed round's steps: spread. -/
import Derived.Test.YtfbpajiddkehnaaDoorKecS
namespace Go.Proofs.YtfbpajiddkehnaaDoor
open Go.RowKit Go.Own
namespace Kec
open Go.KecM

theorem run_index_words (s : KecM.St) (hs : s.length = 25) (i : Nat) (hi : i < 25) {v : W} (hv : s.getD i 0 = v) (w : World) : (Instr.index 41 (.agg (s.map u64V).toArray) (.int .i64 (i : Int))).run Tryd.prog w = .ok (.int .u64 (v.toNat : Int)) w := by
  have hse : (sizeOf 39).run Tryd.prog w = .ok 1 w := by kernel_rfl
  have ha : (isAgg 39).run Tryd.prog w = .ok false w := by kernel_rfl
  have h0 : (0 : Int) ≤ (i : Int) ∧ (i : Int) < (25 : Nat) := by omega
  have hl : i < s.length := by omega
  unfold Instr.index
  simp only [Sem.run_bind, asIntOf, Sem.run_pure, Result.andThen_ok, run_underlying Tryd.underlying41]
  rw [if_pos h0]
  simp only [Sem.run_bind, hse, Result.andThen_ok, Nat.mul_one, Int.toNat_natCast]
  unfold part
  simp only [Sem.run_bind, ha, Result.andThen_ok]
  have hv' : s[i] = v := by simpa [hl] using hv
  simp [hl, go_sem, u64V, hv']
theorem wpList_index_words {ops : Array Oper} {rest : List Oper} {o : Oper} {a : Act} {w : World} {Q : Exit → Act → World → Prop} (hgd : o.guard = none) (x y : Operand) (ho : o.op = .index 41 x y)
    (s : KecM.St) (hs : s.length = 25) (hx : a.eval x = .agg (s.map u64V).toArray) (i : Nat) (hi : i < 25) (hy : a.eval y = .int .i64 (i : Int)) {v : W} (hv : s.getD i 0 = v)
    (h : wpList Tryd.prog ops Q rest (a.put o.dst (.int .u64 (v.toNat : Int))) w) : wpList Tryd.prog ops Q (o :: rest) a w := by
  refine wpList_plain hgd fun _ hK => ?_
  have := run_index_words s hs i hi hv w
  unfold Oper.wp execOp
  simp only [ho, hx, hy, Sem.run_bind, this, Result.andThen_ok, Sem.run_pure]
  exact hK _ _ h

theorem sub_lit1 {o : Oper} {t : Tmp} (ho : o.op = .binOp .sub 3 (.tmp t) (.const (.int .i64 1)) 3) (k : Nat) (hk : k ≤ 1000) : ∀ (ρ : Operand → Value) w, ρ (.tmp t) = .int .i64 ((k + 1 : Nat) : Int) → (∀ c, ρ (.const c) = c) → (execOp ρ o).run Tryd.prog w = .ok (.value (.int .i64 (k : Int))) w := by
  intro ρ w h0 hc
  have e : IntKind.i64.wrap (((k + 1 : Nat) : Int) - 1) = (k : Int) := (IntWalk.i64_in _ (by omega)).trans (by omega)
  simp only [execOp, ho, h0, hc]
  generalize ((k + 1 : Nat) : Int) = m at e
  simp [go_sem, e]
theorem rem_five {o : Oper} {t : Tmp} (ho : o.op = .binOp .rem 3 (.tmp t) (.const (.int .i64 5)) 3) (k : Nat) (hk : k ≤ 1000) {q : Nat} (hq : q = k % 5) : ∀ (ρ : Operand → Value) w, ρ (.tmp t) = .int .i64 (k : Int) → (∀ c, ρ (.const c) = c) → (execOp ρ o).run Tryd.prog w = .ok (.value (.int .i64 (q : Int))) w := by
  intro ρ w h0 hc
  have e1 : (k : Int).tmod 5 = (q : Int) := by rw [Int.tmod_eq_emod_of_nonneg (by omega)]; omega
  have e : IntKind.i64.wrap (q : Int) = (q : Int) := IntWalk.i64_in _ (by omega)
  simp only [execOp, ho, h0, hc]
  generalize (k : Int) = m at e1
  simp [go_sem, e1, e]
theorem add_litN (c : Nat) {o : Oper} {t : Tmp} (ho : o.op = .binOp .add 3 (.tmp t) (.const (.int .i64 (c : Int))) 3) (k : Nat) (hk : k ≤ 1000) (hcl : c ≤ 1000) {m : Nat} (hm : m = k + c) : ∀ (ρ : Operand → Value) w, ρ (.tmp t) = .int .i64 k → (∀ c, ρ (.const c) = c) → (execOp ρ o).run Tryd.prog w = .ok (.value (.int .i64 (m : Int))) w := by
  rw [hm]; exact add_lit c ho k hk hcl
theorem sub_litN {o : Oper} {t : Tmp} (ho : o.op = .binOp .sub 3 (.tmp t) (.const (.int .i64 1)) 3) (k : Nat) (hk : k ≤ 1000) {m : Nat} (hm : m = k + 1) : ∀ (ρ : Operand → Value) w, ρ (.tmp t) = .int .i64 (m : Int) → (∀ c, ρ (.const c) = c) → (execOp ρ o).run Tryd.prog w = .ok (.value (.int .i64 (k : Int))) w := by
  rw [hm]; exact sub_lit1 ho k hk
theorem rotK_below (x : W) (n : Nat) (hn : n < 64) (w : World) : Calls Tryd.prog 32 #[.int .u64 x.toNat, .int .i64 n] w fun e w' => e = .returned (.int .u64 (rot x n).toNat) ∧ Below w.heap.size w w' :=
  (rotK_any x n hn w).mono fun _ _ h => ⟨h.1, h.2 ▸ Below.refl _ _⟩
theorem atK_below (x y i : Nat) (hx : x ≤ 1000) (hy : y ≤ 1000) (hi : i = x % 5 + 5 * (y % 5)) (w : World) : Calls Tryd.prog 33 #[.int .i64 x, .int .i64 y] w fun e w' => e = .returned (.int .i64 i) ∧ Below w.heap.size w w' :=
  (atK_nat x y i hx hy hi w).mono fun _ _ h => ⟨h.1, h.2 ▸ Below.refl _ _⟩

set_option maxHeartbeats 4000000 in
theorem spread_any (s : KecM.St) (hs : s.length = 25) (w : World) :
    Calls Tryd.prog 27 #[.agg (s.map u64V).toArray] w fun e w' => e = .returned (.agg ((theta s).map u64V).toArray) ∧ Below w.heap.size w w' := by
  have HSL := Lib.hid hs
  clear hs
  have INFO := Lib.hid (info_lanes s HSL.out)
  go_enter Tryd.func27, Tryd.ntmps27
  have hst := A64.box (A64.box (A64.box (Own.St.start w) 41 s) 41 (List.replicate 25 0)) 49 (List.replicate 5 0)
  simp only [size_alloc'] at hst
  have ROW := Lib.hid (A64.row hst 2 rfl)
  have HST0 := Lib.hid hst
  clear hst
  go_wp2_with (refine wpList_load_row rfl 41 (.tmp 1) rfl w.heap.size rfl 41 _ (0, 0) _ ROW.out Tryd.underlying41 rfl INFO.out ?_)
  clear ROW
  change Code.wp _ _ _ _ (((w.alloc (.cells (s.map u64V).toArray 41)).alloc (.cells ((List.replicate 25 (0 : KecM.W)).map u64V).toArray 41)).alloc (.cells ((List.replicate 5 (0 : KecM.W)).map u64V).toArray 49))
  generalize ((w.alloc (.cells (s.map u64V).toArray 41)).alloc (.cells ((List.replicate 25 (0 : KecM.W)).map u64V).toArray 41)).alloc (.cells ((List.replicate 5 (0 : KecM.W)).map u64V).toArray 49) = W1 at HST0 ⊢
  obtain ⟨bs, hbs⟩ : ∃ b, b = w.heap.size := ⟨_, rfl⟩
  obtain ⟨br, hbr⟩ : ∃ b, b = w.heap.size + 1 := ⟨_, rfl⟩
  obtain ⟨bp, hbp⟩ : ∃ b, b = w.heap.size + 1 + 1 := ⟨_, rfl⟩
  rw [← hbp, ← hbr] at HST0 ⊢
  have HST : Hid (Own.St w.heap.size w W1 [A64 bp 49 (pacc s 0), A64 br 41 (List.replicate 25 0), A64 bs 41 s]) := by rw [hbs]; exact HST0.out
  rw [← hbs]
  clear HST0 hbs hbr hbp
  go_loopw [10] (fun i wr => ∃ x : Nat, x ≤ 25 ∧ i = .int .i64 x ∧ Own.St w.heap.size w wr [A64 bp 49 (pacc s x), A64 br 41 (List.replicate 25 0), A64 bs 41 s]) (fun i _ => 25 - (intOf i).toNat)
  case atStart => exact ⟨0, by omega, rfl, HST.out⟩
  case round =>
    obtain ⟨x, hx25, rfl, H⟩ := hrel
    have H := Lib.hid H
    by_cases hx : (x : Int) < 25
    · have hxn : x < 25 := by omega
      obtain ⟨k, hk⟩ : ∃ k, k = x % 5 := ⟨_, rfl⟩
      have hki : (x : Int) % 5 = (k : Int) := by omega
      have hk5 : k < 5 := by omega
      have hk5i : (k : Int) < 5 := by omega
      obtain ⟨z1, hz1⟩ : ∃ z, z = s.getD x 0 := ⟨_, rfl⟩
      obtain ⟨z2, hz2⟩ : ∃ z, z = (pacc s x).getD k 0 := ⟨_, rfl⟩
      obtain ⟨z3, hz3⟩ : ∃ z, z = z2 ^^^ z1 := ⟨_, rfl⟩
      have HZ1 : Hid (s.getD x 0 = z1) := hz1.symm
      have HX : Hid (bits .xor .u64 (z2.toNat : Int) (z1.toNat : Int) = (z3.toNat : Int)) := by
        show bits .xor .u64 (z2.toNat : Int) (z1.toNat : Int) = (z3.toNat : Int)
        rw [u64_xor_nat _ _ z2.isLt z1.isLt, hz3, BitVec.toNat_xor]
      have hxor : bits .xor .u64 (z2.toNat : Int) (z1.toNat : Int) = (z3.toNat : Int) := HX.out
      obtain ⟨cp, fp⟩ := A64.cell H.out 0 rfl k (by rw [pacc_len]; exact hk5) hz2.symm
      have PUT : Hid (Own.St w.heap.size w (wr.setCell ⟨bp, k, none⟩ (.int .u64 (z3.toNat : Int))) [A64 bp 49 (pacc s (x + 1)), A64 br 41 (List.replicate 25 0), A64 bs 41 s]) := by
        have h := A64.store H.out 0 rfl k z3
        have e : (pacc s x).set k z3 = pacc s (x + 1) := by rw [hz3, hz2, hz1, hk]; rfl
        rw [e] at h
        exact h
      clear hz1 hz2 hz3 hk HX
      go_wp2_with (refine wpList_index_words rfl (.tmp 9) (.tmp 10) rfl s HSL.out rfl x hxn rfl HZ1.out ?_)
      go_roundw
      case rel => exact ⟨x + 1, by omega, by go_num, PUT.out⟩
      case measure => simp [intOf]; omega
    · have H0 : Hid (Own.St w.heap.size w wr [A64 bp 49 (pacc s 25), A64 br 41 (List.replicate 25 0), A64 bs 41 (thst s (5 * 0))]) := by
        have h := H.out
        rw [show x = 25 by omega] at h
        rw [Nat.mul_zero, thst_zero s HSL.out]
        exact h
      obtain ⟨wo, hwo⟩ : ∃ wo, wo = wr := ⟨_, rfl⟩
      rw [← hwo] at H0 ⊢
      clear hwo H hx25
      go_wp2
      go_loopw [22] (fun i wr => ∃ x : Nat, x ≤ 5 ∧ i = .int .i64 x ∧ Own.St w.heap.size w wr [A64 bp 49 (pacc s 25), A64 br 41 (List.replicate 25 0), A64 bs 41 (thst s (5 * x))]) (fun i _ => 5 - (intOf i).toNat)
      case atStart => exact ⟨0, by omega, rfl, H0.out⟩
      case round =>
        obtain ⟨x, hx5, rfl, H⟩ := hrel
        have H := Lib.hid H
        by_cases hx : (x : Int) < 5
        · have hxn : x < 5 := by omega
          have hx10 : x ≤ 1000 := by omega
          obtain ⟨n5, hn5⟩ : ∃ n, n = x + 5 := ⟨_, rfl⟩
          obtain ⟨n4, hn4⟩ : ∃ n, n = x + 4 := ⟨_, rfl⟩
          obtain ⟨n1, hn1⟩ : ∃ n, n = x + 1 := ⟨_, rfl⟩
          obtain ⟨q4, hq4⟩ : ∃ q, q = (x + 4) % 5 := ⟨_, rfl⟩
          obtain ⟨q1, hq1⟩ : ∃ q, q = (x + 1) % 5 := ⟨_, rfl⟩
          have hq4l : q4 < 5 := by omega
          have hq1l : q1 < 5 := by omega
          obtain ⟨z1, hz1⟩ : ∃ z, z = par s (x + 4) := ⟨_, rfl⟩
          obtain ⟨z2, hz2⟩ : ∃ z, z = par s (x + 1) := ⟨_, rfl⟩
          obtain ⟨z3, hz3⟩ : ∃ z, z = rot z2 1 := ⟨_, rfl⟩
          obtain ⟨z4, hz4⟩ : ∃ z, z = z1 ^^^ z3 := ⟨_, rfl⟩
          have HC1 : Hid (∀ wx, Below wr.heap.size wr wx → wx.cell? ⟨bp, q4, none⟩ = some (.int .u64 (z1.toNat : Int))) := fun wx hwx => cell_later (A64.cell H.out 0 rfl q4 (by rw [pacc_len]; exact hq4l) (by rw [pacc_get s q4 hq4l, hz1, ← par_mod s (x + 4), hq4])).1 hwx
          have HC2 : Hid (∀ wx, Below wr.heap.size wr wx → wx.cell? ⟨bp, q1, none⟩ = some (.int .u64 (z2.toNat : Int))) := fun wx hwx => cell_later (A64.cell H.out 0 rfl q1 (by rw [pacc_len]; exact hq1l) (by rw [pacc_get s q1 hq1l, hz2, ← par_mod s (x + 1), hq1])).1 hwx
          have HR1 : Hid (∀ wx, Calls Tryd.prog 32 #[.int .u64 z2.toNat, .int .i64 1] wx fun e w' => e = .returned (.int .u64 z3.toNat) ∧ Below wx.heap.size wx w') := by
            intro wx; rw [hz3]; exact rotK_below z2 1 (by omega) wx
          have HX4 : Hid (bits .xor .u64 (z1.toNat : Int) (z3.toNat : Int) = (z4.toNat : Int)) := by
            show bits .xor .u64 (z1.toNat : Int) (z3.toNat : Int) = (z4.toNat : Int)
            rw [u64_xor_nat _ _ z1.isLt z3.isLt, hz4, BitVec.toNat_xor]
          have HZ4 : Hid (z4 = par s (x + 4) ^^^ rot (par s (x + 1)) 1) := by show z4 = _; rw [hz4, hz3, hz2, hz1]
          clear hz1 hz2 hz3 hz4
          go_wp2
          refine wp_lax_list (by kernel_rfl) (by kernel_rfl) (by kernel_rfl) ?_
          refine wpL_move (.int .i64 x) rfl (by kernel_rfl) (by kernel_rfl) (by kernel_rfl) (by kernel_rfl) ?_
          refine wpL_run1 (x := .tmp 25) (.int .i64 x) (.int .i64 (n5 : Int)) (by kernel_rfl) (by kernel_rfl) (by kernel_rfl) (by kernel_rfl) (by kernel_rfl) (fun wx ρ hwx h0 hc => add_litN 5 rfl x hx10 (by decide) hn5 ρ wx h0 hc) ?_
          refine wpL_run1 (x := .tmp 26) (.int .i64 (n5 : Int)) (.int .i64 (n4 : Int)) (by kernel_rfl) (by kernel_rfl) (by kernel_rfl) (by kernel_rfl) (by kernel_rfl) (fun wx ρ hwx h0 hc => sub_litN rfl n4 (by omega) (by omega) ρ wx h0 hc) ?_
          refine wpL_run1 (x := .tmp 27) (.int .i64 (n4 : Int)) (.int .i64 (q4 : Int)) (by kernel_rfl) (by kernel_rfl) (by kernel_rfl) (by kernel_rfl) (by kernel_rfl) (fun wx ρ hwx h0 hc => rem_five rfl n4 (by omega) (by omega) ρ wx h0 hc) ?_
          refine wpL_run2 (x := .tmp 3) (y := .tmp 28) (.pointer (some ⟨bp, 0, none⟩)) (.int .i64 q4) (.pointer (some ⟨bp, q4, none⟩)) (by kernel_rfl) (by kernel_rfl) (by kernel_rfl) (by kernel_rfl) (by kernel_rfl) (by kernel_rfl) (fun wx ρ hwx h0 h1 hc => idx5 rfl q4 hq4l bp ρ wx h0 h1) ?_
          refine wpL_run1 (x := .tmp 29) (.pointer (some ⟨bp, q4, none⟩)) (.int .u64 z1.toNat) (by kernel_rfl) (by kernel_rfl) (by kernel_rfl) (by kernel_rfl) (by kernel_rfl) (fun wx ρ hwx h0 hc => load64 rfl ρ (HC1.out wx hwx) h0) ?_
          refine wpL_move (.int .i64 x) rfl (by kernel_rfl) (by kernel_rfl) (by kernel_rfl) (by kernel_rfl) ?_
          refine wpL_run1 (x := .tmp 31) (.int .i64 x) (.int .i64 (n1 : Int)) (by kernel_rfl) (by kernel_rfl) (by kernel_rfl) (by kernel_rfl) (by kernel_rfl) (fun wx ρ hwx h0 hc => add_litN 1 rfl x hx10 (by decide) hn1 ρ wx h0 hc) ?_
          refine wpL_run1 (x := .tmp 32) (.int .i64 (n1 : Int)) (.int .i64 (q1 : Int)) (by kernel_rfl) (by kernel_rfl) (by kernel_rfl) (by kernel_rfl) (by kernel_rfl) (fun wx ρ hwx h0 hc => rem_five rfl n1 (by omega) (by omega) ρ wx h0 hc) ?_
          refine wpL_run2 (x := .tmp 3) (y := .tmp 33) (.pointer (some ⟨bp, 0, none⟩)) (.int .i64 q1) (.pointer (some ⟨bp, q1, none⟩)) (by kernel_rfl) (by kernel_rfl) (by kernel_rfl) (by kernel_rfl) (by kernel_rfl) (by kernel_rfl) (fun wx ρ hwx h0 h1 hc => idx5 rfl q1 hq1l bp ρ wx h0 h1) ?_
          refine wpL_run1 (x := .tmp 34) (.pointer (some ⟨bp, q1, none⟩)) (.int .u64 z2.toNat) (by kernel_rfl) (by kernel_rfl) (by kernel_rfl) (by kernel_rfl) (by kernel_rfl) (fun wx ρ hwx h0 hc => load64 rfl ρ (HC2.out wx hwx) h0) ?_
          refine wpL_fn (.int .u64 z3.toNat) [.int .u64 z2.toNat, .int .i64 1] rfl (by kernel_rfl) (by kernel_rfl) (by kernel_rfl) (by kernel_rfl) (fun _ _ => by simp [go_sem]) (fun wx hwx => HR1.out wx) ?_
          refine wpL_run2 (x := .tmp 30) (y := .tmp 36) (.int .u64 z1.toNat) (.int .u64 z3.toNat) (.int .u64 z4.toNat) (by kernel_rfl) (by kernel_rfl) (by kernel_rfl) (by kernel_rfl) (by kernel_rfl) (by kernel_rfl) (fun wx ρ hwx h0 h1 hc => by simp [h0, h1, hc, go_sem, HX4.out]) ?_
          refine wpL_assign (.int .u64 z4.toNat) rfl (by kernel_rfl) (by kernel_rfl) (by kernel_rfl) (by kernel_rfl) ?_
          refine wpL_end (by kernel_rfl) (fun wd hwd => ?_)
          simp only [FinL, setL, List.set_cons_zero, List.set_cons_succ]
          have G2 : Hid (Own.St w.heap.size w wd [A64 bp 49 (pacc s 25), A64 br 41 (List.replicate 25 0), A64 bs 41 (thst s (5 * x + 0))]) := H.out.later hwd
          clear hwd HC1 HC2 HR1 HX4 hq1 hq4 H hn5 hn4 hn1
          go_wp2
          go_loopw [38] (fun i wr => ∃ y : Nat, y ≤ 5 ∧ i = .int .i64 y ∧ Own.St w.heap.size w wr [A64 bp 49 (pacc s 25), A64 br 41 (List.replicate 25 0), A64 bs 41 (thst s (5 * x + y))]) (fun i _ => 5 - (intOf i).toNat)
          case atStart => exact ⟨0, by omega, rfl, G2.out⟩
          case round =>
            obtain ⟨y, hy5, rfl, G⟩ := hrel
            have G := Lib.hid G
            by_cases hy : (y : Int) < 5
            · have hyn : y < 5 := by omega
              obtain ⟨i, hi⟩ : ∃ i, i = x % 5 + 5 * (y % 5) := ⟨_, rfl⟩
              have hi' : i = x + 5 * y := by omega
              have hil : i < 25 := by omega
              have hil' : (i : Int) < 25 := by omega
              obtain ⟨z5, hz5⟩ : ∃ z, z = at' s x y := ⟨_, rfl⟩
              obtain ⟨z6, hz6⟩ : ∃ z, z = z5 ^^^ z4 := ⟨_, rfl⟩
              have HX6 : Hid (bits .xor .u64 (z5.toNat : Int) (z4.toNat : Int) = (z6.toNat : Int)) := by
                show bits .xor .u64 (z5.toNat : Int) (z4.toNat : Int) = (z6.toNat : Int)
                rw [u64_xor_nat _ _ z5.isLt z4.isLt, hz6, BitVec.toNat_xor]
              have hxor : bits .xor .u64 (z5.toNat : Int) (z4.toNat : Int) = (z6.toNat : Int) := HX6.out
              have CA := Lib.hid (atK_nat x y i (by omega) (by omega) hi wr)
              obtain ⟨cp, fp⟩ := A64.cell G.out 2 rfl i (by rw [thst_len]; exact hil) (by rw [hi', thst_get s x y hxn hyn, ← hz5])
              have PUT : Hid (Own.St w.heap.size w (wr.setCell ⟨bs, i, none⟩ (.int .u64 (z6.toNat : Int))) [A64 bp 49 (pacc s 25), A64 br 41 (List.replicate 25 0), A64 bs 41 (thst s (5 * x + (y + 1)))]) := by
                have h := A64.store G.out 2 rfl i z6
                have e : (thst s (5 * x + y)).set i z6 = thst s (5 * x + (y + 1)) := by rw [hi', hz6, hz5, HZ4.out, thst_set s x y hxn hyn]
                rw [e] at h
                exact h
              clear hz5 hz6 HX6 hi hi'
              go_wp2_with (fail)
              refine CA.out.mono ?_
              rintro e w' ⟨rfl, rfl⟩
              go_wp2
              go_roundw
              case rel => exact ⟨y + 1, by omega, by go_num, PUT.out⟩
              case measure => simp [intOf]; omega
            · have G3 : Hid (Own.St w.heap.size w wr [A64 bp 49 (pacc s 25), A64 br 41 (List.replicate 25 0), A64 bs 41 (thst s (5 * (x + 1)))]) := by
                have h := G.out
                rw [show 5 * x + y = 5 * (x + 1) by omega] at h
                exact h
              clear hy5
              go_wp2
              go_roundw
              case rel => exact ⟨x + 1, by omega, by go_num, G3.out⟩
              case measure => simp [intOf]; omega
        · obtain ⟨rs, hrs⟩ : ∃ r, r = theta s := ⟨_, rfl⟩
          have LR : Hid (rs.length = 25) := by rw [hrs]; exact mk_len _
          have H5 : Hid (Own.St w.heap.size w wr [A64 bp 49 (pacc s 25), A64 br 41 (List.replicate 25 0), A64 bs 41 rs]) := by
            have h := H.out
            rw [show 5 * x = 25 by omega, thst_all, ← hrs] at h
            exact h
          have HRS := Lib.hid hrs
          clear hrs H hx5
          have LAST := Lib.hid (A64.setAll H5.out 1 rfl rs (by rw [LR.out]; rfl))
          have ROW := Lib.hid (A64.row H5.out 2 rfl)
          have THERE := Lib.hid (A64.there H5.out 1 rfl rs (by rw [LR.out]; rfl))
          have INFO2 := Lib.hid (info_lanes rs LR.out)
          have ONE := Lib.hid (one_cells rs)
          go_wp2_with (first
            | (refine wpList_load_row rfl 41 (.tmp 1) rfl bs rfl 41 _ (0, 0) _ ROW.out Tryd.underlying41 rfl INFO2.out ?_)
            | (refine wpList_store_mid rfl 41 (.tmp 2) (.tmp 51) rfl br 0 (rs.map u64V).toArray rfl rfl THERE.out INFO2.out ONE.out ?_))
          have END := Lib.hid (A64.row LAST.out 1 rfl)
          refine bodyPost_ret (results_cell_row rfl _ _ br 41 _ (0, 0) _ rfl END.out Tryd.underlying41 rfl INFO2.out) rfl ?_
          refine ⟨?_, LAST.out.below⟩
          rw [HRS.out]

end Kec
end Go.Proofs.YtfbpajiddkehnaaDoor
