/- Merged: KecS KecT KecU KecP KecV SpoM SpoR SpoK SpoS SpoT SpoQ -/
import Derived.Lib.SlBytesConst
import Derived.Test.YtllmogicmimjlaaDoorQ2
import Derived.Test.YtllmogicmimjlaaDoorQ3
import Derived.Test.YtllmogicmimjlaaDoorQ7
set_option linter.unusedVariables false
section
namespace Go.Proofs.YtllmogicmimjlaaDoor
open Go.RowKit Go.Own
namespace Kec
open Go.KecM

/-- the table is there -/
def Tab (w : World) : Prop := ∀ i : Nat, i < 25 → w.cell? ⟨0, i, none⟩ = some (.int .i64 ((turns.getD i 0 : Nat) : Int))
theorem Tab.later {w w' : World} (h : Tab w) (g : Below w.heap.size w w') : Tab w' := fun i hi => cell_later (h i hi) g

theorem atK_nat (x y i : Nat) (hx : x ≤ 1000) (hy : y ≤ 1000) (hi : i = x % 5 + 5 * (y % 5)) (w : World) : Calls Tryd.prog 68 #[.int .i64 x, .int .i64 y] w fun e w' => e = .returned (.int .i64 i) ∧ w = w' := by
  have HI : Hid ((x : Int) % 5 + (y : Int) % 5 * 5 = (i : Int)) := by
    show (x : Int) % 5 + (y : Int) % 5 * 5 = (i : Int)
    omega
  clear hi
  go_enter Tryd.func68, Tryd.ntmps68
  go_wp2
  go_ret
  exact ⟨by rw [← HI.out]; rfl, rfl⟩

theorem u64_and63 (n : Nat) (hn : n < 64) : bits .and .u64 (n : Int) 63 = (n : Int) := by
  have h := u64_and_nat n 63 (by omega) (by omega)
  rw [show n &&& 63 = n % 64 from Nat.and_two_pow_sub_one_eq_mod n 6, Nat.mod_eq_of_lt hn] at h
  exact h

theorem rotK_any (x : W) (n : Nat) (hn : n < 64) (w : World) : Calls Tryd.prog 67 #[.int .u64 x.toNat, .int .i64 n] w fun e w' => e = .returned (.int .u64 (rot x n).toNat) ∧ w = w' := by
  have h := turn_eq x n hn
  obtain ⟨y, hy⟩ : ∃ y, y = rot x n := ⟨_, rfl⟩
  rw [← hy] at h ⊢
  have A63 := u64_and63 n hn
  clear hy
  go_enter Tryd.func67, Tryd.ntmps67
  go_wp2
  go_ret
  exact ⟨rfl, rfl⟩

theorem stepK_any (r : Nat) (hr : r < 256) (w : World) : Calls Tryd.prog 69 #[.int .u64 r] w fun e w' => e = .returned (.int .u64 ((lf r : Nat) : Int)) ∧ w = w' := by
  by_cases h256 : 2 * r ≥ 256
  · have hx := u64_xor_nat (2 * r) 369 (by omega) (by omega)
    have hgo : decide ((256 : Int) ≤ (r : Int) * 2) = true := by simp; omega
    have HX : Hid (bits .xor .u64 ((r : Int) * 2) 369 = ((lf r : Nat) : Int)) := by
      show bits .xor .u64 ((r : Int) * 2) 369 = ((lf r : Nat) : Int)
      rw [show (r : Int) * 2 = ((2 * r : Nat) : Int) by omega]
      refine hx.trans ?_
      unfold lf
      rw [if_pos h256]
    clear hx
    go_enter Tryd.func69, Tryd.ntmps69
    go_wp2
    go_ret
    exact ⟨by rw [HX.out]; rfl, rfl⟩
  · have hgo : decide ((256 : Int) ≤ (r : Int) * 2) = false := by simp; omega
    have HX : Hid ((r : Int) * 2 = ((lf r : Nat) : Int)) := by
      show (r : Int) * 2 = ((lf r : Nat) : Int)
      unfold lf
      rw [if_neg h256]; omega
    go_enter Tryd.func69, Tryd.ntmps69
    go_wp2
    go_ret
    exact ⟨by rw [HX.out]; rfl, rfl⟩

theorem lfs_255 : lfs 255 = 1 := by decide +kernel
theorem lfs_per (t : Nat) : lfs (t + 255) = lfs t := by
  induction t with
  | zero => exact lfs_255
  | succ t ih =>
    rw [show t + 1 + 255 = t + 255 + 1 by omega]
    show lf (lfs (t + 255)) = lf (lfs t)
    rw [ih]
theorem lfs_mod (t : Nat) : lfs (t % 255) = lfs t := by
  have h : ∀ q r, lfs (r + 255 * q) = lfs r := by
    intro q r
    induction q with
    | zero => rfl
    | succ q ih => rw [show r + 255 * (q + 1) = r + 255 * q + 255 by omega, lfs_per, ih]
  have := h (t / 255) (t % 255)
  rw [Nat.mod_add_div] at this
  exact this.symm
theorem cbit_mod (t : Nat) : cbit (t % 255) = lfs t % 2 := by unfold cbit; rw [lfs_mod]
theorem or_add (m z e : Nat) (hm : m < 2 ^ e) : m ||| z * 2 ^ e = m + z * 2 ^ e := by
  have h := Nat.two_pow_add_eq_or_of_lt hm z
  rw [Nat.or_comm, Nat.mul_comm z, ← h, Nat.add_comm]

set_option maxHeartbeats 800000 in
theorem markK_any (round : Int) (h0 : -9223372036854775808 ≤ round) (h1 : round ≤ 9223372036854775807) (w : World) : Calls Tryd.prog 64 #[.int .i64 round] w fun e w' => e = .returned (.int .u64 (markOf round).toNat) ∧ w = w' := by
  by_cases hneg : round < 0
  · have hm : markOf round = 0 := by unfold markOf; rw [if_pos hneg]
    rw [hm]
    go_enter Tryd.func64, Tryd.ntmps64
    go_wp2
    go_ret
    exact ⟨rfl, rfl⟩
  · obtain ⟨n, rfl⟩ := Int.eq_ofNat_of_zero_le (show 0 ≤ round by omega)
    obtain ⟨r, hr⟩ : ∃ r, r = n % 255 := ⟨_, rfl⟩
    have hri : (n : Int) % 255 = (r : Int) := by omega
    have hrl : r < 255 := by omega
    obtain ⟨x, hx⟩ : ∃ x, x = (markOf (n : Int)).toNat := ⟨_, rfl⟩
    have hx2 : x = markTo r 7 := by
      rw [hx]; unfold markOf markW
      rw [if_neg hneg, Int.toNat_natCast, BitVec.toNat_ofNat, kmark_to, ← hr]
      exact Nat.mod_eq_of_lt (markTo_7 r)
    rw [← hx]
    have HX := Lib.hid hx2
    clear hx hx2 hr
    go_enter Tryd.func64, Tryd.ntmps64
    go_wp2
    go_loop [3, 11] (fun p i => ∃ k : Nat, k ≤ 7 * r ∧ i = .int .i64 k ∧ p = .int .u64 (lfs k)) (fun _ i => 7 * r - (intOf i).toNat)
    case atStart => exact ⟨0, by omega, rfl, rfl⟩
    case round =>
      obtain ⟨k, hk, rfl, rfl⟩ := hrel
      have hl := lfs_lt k
      obtain ⟨g, hg⟩ : ∃ g, g = lfs k := ⟨_, rfl⟩
      rw [← hg] at hl ⊢
      have HG := Lib.hid hg
      clear hg
      by_cases hkm : (k : Int) < 7 * (r : Int)
      · have C := Lib.hid (stepK_any g hl w)
        go_wp2_with (fail)
        refine C.out.mono ?_
        rintro e w' ⟨rfl, rfl⟩
        go_wp2
        go_round
        case rel => exact ⟨k + 1, by omega, by go_num, by rw [HG.out]; rfl⟩
        case measure => simp [intOf]; omega
      · have HK : Hid (k = 7 * r) := by show k = 7 * r; omega
        clear hk
        go_wp2
        go_loop [3, 4, 16] (fun p m i => ∃ j : Nat, j ≤ 7 ∧ i = .int .i64 j ∧ m = .int .u64 (markTo r j) ∧ p = .int .u64 (lfs (7 * r + j))) (fun _ _ i => 7 - (intOf i).toNat)
        case atStart => exact ⟨0, by omega, rfl, rfl, by rw [HG.out, HK.out]; rfl⟩
        case round =>
          obtain ⟨j, hj, rfl, rfl, rfl⟩ := hrel
          have hl2 := lfs_lt (7 * r + j)
          obtain ⟨q, hq⟩ : ∃ q, q = lfs (7 * r + j) := ⟨_, rfl⟩
          rw [← hq] at hl2 ⊢
          have HQ := Lib.hid hq
          obtain ⟨m, hm⟩ : ∃ m, m = markTo r j := ⟨_, rfl⟩
          rw [← hm]
          have HM := Lib.hid hm
          clear hm hq
          by_cases h7 : (j : Int) < 7
          · obtain ⟨p, hpd⟩ : ∃ p, p = 2 ^ j := ⟨_, rfl⟩
            have hp0 : 1 ≤ p := by rw [hpd]; exact Nat.pow_pos (by decide)
            have hp64 : p ≤ 64 := by rw [hpd]; exact Nat.pow_le_pow_right (show 2 > 0 by decide) (show j ≤ 6 by omega)
            have hpi : (2 : Int) ^ j = (p : Int) := by rw [hpd]; simp
            obtain ⟨e, he⟩ : ∃ e, e = p - 1 := ⟨_, rfl⟩
            have hpe : (p : Int) - 1 = (e : Int) := by omega
            have he63 : e ≤ 63 := by omega
            have HE : Hid (e = 2 ^ j - 1) := by show e = 2 ^ j - 1; rw [he, hpd]
            obtain ⟨z, hz⟩ : ∃ z, z = q % 2 := ⟨_, rfl⟩
            have HZ : Hid (z = cbit ((j + 7 * r) % 255)) := by
              show z = cbit ((j + 7 * r) % 255)
              rw [cbit_mod, Nat.add_comm, ← HQ.out, hz]
            have HA : Hid (bits .and .u64 (q : Int) 1 = (z : Int)) := by
              show bits .and .u64 (q : Int) 1 = (z : Int)
              have h := u64_and_nat q 1 (by omega) (by omega)
              rw [Nat.and_one_is_mod, ← hz] at h
              exact h
            have HS : Hid (bits .or .u64 (m : Int) (IntKind.u64.wrap ((z : Int) * 2 ^ e)) = (markTo r (j + 1) : Int)) := by
              show bits .or .u64 (m : Int) (IntKind.u64.wrap ((z : Int) * 2 ^ e)) = (markTo r (j + 1) : Int)
              have e1 : markTo r (j + 1) = m + z * 2 ^ e := by
                show markTo r j + cbit ((j + 7 * r) % 255) * 2 ^ (2 ^ j - 1) = _
                rw [← HM.out, ← HZ.out, ← HE.out]
              have h2 := markTo_64 r (j + 1) (by omega)
              have h3 := markTo_lt r j (by omega)
              rw [← HM.out, ← HE.out] at h3
              have h4 := or_add m z e h3
              rw [e1] at h2 ⊢
              have c1 : (z : Int) * 2 ^ e = ((z * 2 ^ e : Nat) : Int) := by simp
              rw [c1]
              generalize z * 2 ^ e = y at h2 h4 ⊢
              rw [IntWalk.u64_in (y : Int) (by omega), u64_or_nat _ _ (by omega) (by omega), h4]
            have C := Lib.hid (stepK_any q hl2 w)
            clear hz he hpd
            go_wp2_with (fail)
            refine C.out.mono ?_
            rintro e w' ⟨rfl, rfl⟩
            go_wp2
            go_round
            case rel => exact ⟨j + 1, by omega, by go_num, by rw [HA.out, HS.out], by rw [HQ.out]; rfl⟩
            case measure => simp [intOf]; omega
          · go_wp2
            go_ret
            exact ⟨by rw [HX.out, HM.out, show j = 7 by omega]; rfl, rfl⟩

end Kec
end Go.Proofs.YtllmogicmimjlaaDoor

end
section
namespace Go.Proofs.YtllmogicmimjlaaDoor
open Go.RowKit Go.Own
namespace Kec
open Go.KecM

theorem run_index_words (s : KecM.St) (hs : s.length = 25) (i : Nat) (hi : i < 25) {v : W} (hv : s.getD i 0 = v) (w : World) : (Instr.index 76 (.agg (s.map u64V).toArray) (.int .i64 (i : Int))).run Tryd.prog w = .ok (.int .u64 (v.toNat : Int)) w := by
  have hse : (sizeOf 24).run Tryd.prog w = .ok 1 w := by kernel_rfl
  have ha : (isAgg 24).run Tryd.prog w = .ok false w := by kernel_rfl
  have h0 : (0 : Int) ≤ (i : Int) ∧ (i : Int) < (25 : Nat) := by omega
  have hl : i < s.length := by omega
  unfold Instr.index
  simp only [Sem.run_bind, asIntOf, Sem.run_pure, Result.andThen_ok, run_underlying Tryd.underlying76]
  rw [if_pos h0]
  simp only [Sem.run_bind, hse, Result.andThen_ok, Nat.mul_one, Int.toNat_natCast]
  unfold part
  simp only [Sem.run_bind, ha, Result.andThen_ok]
  have hv' : s[i] = v := by simpa [hl] using hv
  simp [hl, go_sem, u64V, hv']
theorem wpList_index_words {ops : Array Oper} {rest : List Oper} {o : Oper} {a : Act} {w : World} {Q : Exit → Act → World → Prop} (hgd : o.guard = none) (x y : Operand) (ho : o.op = .index 76 x y)
    (s : KecM.St) (hs : s.length = 25) (hx : a.eval x = .agg (s.map u64V).toArray) (i : Nat) (hi : i < 25) (hy : a.eval y = .int .i64 (i : Int)) {v : W} (hv : s.getD i 0 = v)
    (h : wpList Tryd.prog ops Q rest (a.put o.dst (.int .u64 (v.toNat : Int))) w) : wpList Tryd.prog ops Q (o :: rest) a w := by
  refine wpList_plain hgd fun _ hK => ?_
  have := run_index_words s hs i hi hv w
  unfold Oper.wp execOp
  simp only [ho, hx, hy, Sem.run_bind, this, Result.andThen_ok, Sem.run_pure]
  exact hK _ _ h

theorem sub_lit1 {o : Oper} {t : Tmp} (ho : o.op = .binOp .sub 3 (.tmp t) (.const (.int .i64 1)) 3) (k : Nat) (hk : k ≤ 1000) : ∀ (ρ : Operand → Value) w, ρ (.tmp t) = .int .i64 ((k + 1 : Nat) : Int) → (∀ c, ρ (.const c) = c) → (execOp ρ o).run Tryd.prog w = .ok (.value (.int .i64 (k : Int))) w := by
  intro ρ w h0 hc
  have e : IntKind.i64.wrap (((k + 1 : Nat) : Int) - 1) = (k : Int) := (IntWalk.i64_in _ (by omega)).trans (by omega)
  simp only [execOp, ho, h0, hc]
  generalize ((k + 1 : Nat) : Int) = m at e
  simp [go_sem, e]
theorem rem_five {o : Oper} {t : Tmp} (ho : o.op = .binOp .rem 3 (.tmp t) (.const (.int .i64 5)) 3) (k : Nat) (hk : k ≤ 1000) {q : Nat} (hq : q = k % 5) : ∀ (ρ : Operand → Value) w, ρ (.tmp t) = .int .i64 (k : Int) → (∀ c, ρ (.const c) = c) → (execOp ρ o).run Tryd.prog w = .ok (.value (.int .i64 (q : Int))) w := by
  intro ρ w h0 hc
  have e1 : (k : Int).tmod 5 = (q : Int) := by rw [Int.tmod_eq_emod_of_nonneg (by omega)]; omega
  have e : IntKind.i64.wrap (q : Int) = (q : Int) := IntWalk.i64_in _ (by omega)
  simp only [execOp, ho, h0, hc]
  generalize (k : Int) = m at e1
  simp [go_sem, e1]
theorem add_litN (c : Nat) {o : Oper} {t : Tmp} (ho : o.op = .binOp .add 3 (.tmp t) (.const (.int .i64 (c : Int))) 3) (k : Nat) (hk : k ≤ 1000) (hcl : c ≤ 1000) {m : Nat} (hm : m = k + c) : ∀ (ρ : Operand → Value) w, ρ (.tmp t) = .int .i64 k → (∀ c, ρ (.const c) = c) → (execOp ρ o).run Tryd.prog w = .ok (.value (.int .i64 (m : Int))) w := by
  rw [hm]; exact add_lit c ho k hk hcl
theorem sub_litN {o : Oper} {t : Tmp} (ho : o.op = .binOp .sub 3 (.tmp t) (.const (.int .i64 1)) 3) (k : Nat) (hk : k ≤ 1000) {m : Nat} (hm : m = k + 1) : ∀ (ρ : Operand → Value) w, ρ (.tmp t) = .int .i64 (m : Int) → (∀ c, ρ (.const c) = c) → (execOp ρ o).run Tryd.prog w = .ok (.value (.int .i64 (k : Int))) w := by
  rw [hm]; exact sub_lit1 ho k hk
theorem rotK_below (x : W) (n : Nat) (hn : n < 64) (w : World) : Calls Tryd.prog 67 #[.int .u64 x.toNat, .int .i64 n] w fun e w' => e = .returned (.int .u64 (rot x n).toNat) ∧ Below w.heap.size w w' :=
  (rotK_any x n hn w).mono fun _ _ h => ⟨h.1, h.2 ▸ Below.refl _ _⟩
theorem atK_below (x y i : Nat) (hx : x ≤ 1000) (hy : y ≤ 1000) (hi : i = x % 5 + 5 * (y % 5)) (w : World) : Calls Tryd.prog 68 #[.int .i64 x, .int .i64 y] w fun e w' => e = .returned (.int .i64 i) ∧ Below w.heap.size w w' :=
  (atK_nat x y i hx hy hi w).mono fun _ _ h => ⟨h.1, h.2 ▸ Below.refl _ _⟩

set_option maxHeartbeats 4000000 in
theorem spread_any (s : KecM.St) (hs : s.length = 25) (w : World) :
    Calls Tryd.prog 61 #[.agg (s.map u64V).toArray] w fun e w' => e = .returned (.agg ((theta s).map u64V).toArray) ∧ Below w.heap.size w w' := by
  have HSL := Lib.hid hs
  clear hs
  have INFO := Lib.hid (info_lanes s HSL.out)
  go_enter Tryd.func61, Tryd.ntmps61
  have hst := A64.box (A64.box (A64.box (Own.St.start w) 76 s) 76 (List.replicate 25 0)) 119 (List.replicate 5 0)
  simp only [size_alloc'] at hst
  have ROW := Lib.hid (A64.row hst 2 rfl)
  have HST0 := Lib.hid hst
  clear hst
  go_wp2_with (refine wpList_load_row rfl 76 (.tmp 1) rfl w.heap.size rfl 76 _ (0, 0) _ ROW.out Tryd.underlying76 rfl INFO.out ?_)
  clear ROW
  change Code.wp _ _ _ _ (((w.alloc (.cells (s.map u64V).toArray 76)).alloc (.cells ((List.replicate 25 (0 : KecM.W)).map u64V).toArray 76)).alloc (.cells ((List.replicate 5 (0 : KecM.W)).map u64V).toArray 119))
  generalize ((w.alloc (.cells (s.map u64V).toArray 76)).alloc (.cells ((List.replicate 25 (0 : KecM.W)).map u64V).toArray 76)).alloc (.cells ((List.replicate 5 (0 : KecM.W)).map u64V).toArray 119) = W1 at HST0 ⊢
  obtain ⟨bs, hbs⟩ : ∃ b, b = w.heap.size := ⟨_, rfl⟩
  obtain ⟨br, hbr⟩ : ∃ b, b = w.heap.size + 1 := ⟨_, rfl⟩
  obtain ⟨bp, hbp⟩ : ∃ b, b = w.heap.size + 1 + 1 := ⟨_, rfl⟩
  rw [← hbp, ← hbr] at HST0 ⊢
  have HST : Hid (Own.St w.heap.size w W1 [A64 bp 119 (pacc s 0), A64 br 76 (List.replicate 25 0), A64 bs 76 s]) := by rw [hbs]; exact HST0.out
  rw [← hbs]
  clear HST0 hbs hbr hbp
  go_loopw [10] (fun i wr => ∃ x : Nat, x ≤ 25 ∧ i = .int .i64 x ∧ Own.St w.heap.size w wr [A64 bp 119 (pacc s x), A64 br 76 (List.replicate 25 0), A64 bs 76 s]) (fun i _ => 25 - (intOf i).toNat)
  case atStart => exact ⟨0, by omega, rfl, HST.out⟩
  case round =>
    obtain ⟨x, hx25, rfl, H⟩ := hrel
    have H := Lib.hid H
    by_cases hx : (x : Int) < 25
    · have hxn : x < 25 := by omega
      obtain ⟨k, hk⟩ : ∃ k, k = x % 5 := ⟨_, rfl⟩
      have hki : (x : Int) % 5 = (k : Int) := by omega
      have hk5 : k < 5 := by omega
      have hk5i : (k : Int) < 5 := by omega
      obtain ⟨z1, hz1⟩ : ∃ z, z = s.getD x 0 := ⟨_, rfl⟩
      obtain ⟨z2, hz2⟩ : ∃ z, z = (pacc s x).getD k 0 := ⟨_, rfl⟩
      obtain ⟨z3, hz3⟩ : ∃ z, z = z2 ^^^ z1 := ⟨_, rfl⟩
      have HZ1 : Hid (s.getD x 0 = z1) := hz1.symm
      have HX : Hid (bits .xor .u64 (z2.toNat : Int) (z1.toNat : Int) = (z3.toNat : Int)) := by
        show bits .xor .u64 (z2.toNat : Int) (z1.toNat : Int) = (z3.toNat : Int)
        rw [u64_xor_nat _ _ z2.isLt z1.isLt, hz3, BitVec.toNat_xor]
      have hxor : bits .xor .u64 (z2.toNat : Int) (z1.toNat : Int) = (z3.toNat : Int) := HX.out
      obtain ⟨cp, fp⟩ := A64.cell H.out 0 rfl k (by rw [pacc_len]; exact hk5) hz2.symm
      have PUT : Hid (Own.St w.heap.size w (wr.setCell ⟨bp, k, none⟩ (.int .u64 (z3.toNat : Int))) [A64 bp 119 (pacc s (x + 1)), A64 br 76 (List.replicate 25 0), A64 bs 76 s]) := by
        have h := A64.store H.out 0 rfl k z3
        have e : (pacc s x).set k z3 = pacc s (x + 1) := by rw [hz3, hz2, hz1, hk]; rfl
        rw [e] at h
        exact h
      clear hz1 hz2 hz3 hk HX
      go_wp2_with (refine wpList_index_words rfl (.tmp 9) (.tmp 10) rfl s HSL.out rfl x hxn rfl HZ1.out ?_)
      go_roundw
      case rel => exact ⟨x + 1, by omega, by go_num, PUT.out⟩
      case measure => simp [intOf]; omega
    · have H0 : Hid (Own.St w.heap.size w wr [A64 bp 119 (pacc s 25), A64 br 76 (List.replicate 25 0), A64 bs 76 (thst s (5 * 0))]) := by
        have h := H.out
        rw [show x = 25 by omega] at h
        rw [Nat.mul_zero, thst_zero s HSL.out]
        exact h
      obtain ⟨wo, hwo⟩ : ∃ wo, wo = wr := ⟨_, rfl⟩
      rw [← hwo] at H0 ⊢
      clear hwo H hx25
      go_wp2
      go_loopw [22] (fun i wr => ∃ x : Nat, x ≤ 5 ∧ i = .int .i64 x ∧ Own.St w.heap.size w wr [A64 bp 119 (pacc s 25), A64 br 76 (List.replicate 25 0), A64 bs 76 (thst s (5 * x))]) (fun i _ => 5 - (intOf i).toNat)
      case atStart => exact ⟨0, by omega, rfl, H0.out⟩
      case round =>
        obtain ⟨x, hx5, rfl, H⟩ := hrel
        have H := Lib.hid H
        by_cases hx : (x : Int) < 5
        · have hxn : x < 5 := by omega
          have hx10 : x ≤ 1000 := by omega
          obtain ⟨n5, hn5⟩ : ∃ n, n = x + 5 := ⟨_, rfl⟩
          obtain ⟨n4, hn4⟩ : ∃ n, n = x + 4 := ⟨_, rfl⟩
          obtain ⟨n1, hn1⟩ : ∃ n, n = x + 1 := ⟨_, rfl⟩
          obtain ⟨q4, hq4⟩ : ∃ q, q = (x + 4) % 5 := ⟨_, rfl⟩
          obtain ⟨q1, hq1⟩ : ∃ q, q = (x + 1) % 5 := ⟨_, rfl⟩
          have hq4l : q4 < 5 := by omega
          have hq1l : q1 < 5 := by omega
          obtain ⟨z1, hz1⟩ : ∃ z, z = par s (x + 4) := ⟨_, rfl⟩
          obtain ⟨z2, hz2⟩ : ∃ z, z = par s (x + 1) := ⟨_, rfl⟩
          obtain ⟨z3, hz3⟩ : ∃ z, z = rot z2 1 := ⟨_, rfl⟩
          obtain ⟨z4, hz4⟩ : ∃ z, z = z1 ^^^ z3 := ⟨_, rfl⟩
          have HC1 : Hid (∀ wx, Below wr.heap.size wr wx → wx.cell? ⟨bp, q4, none⟩ = some (.int .u64 (z1.toNat : Int))) := fun wx hwx => cell_later (A64.cell H.out 0 rfl q4 (by rw [pacc_len]; exact hq4l) (by rw [pacc_get s q4 hq4l, hz1, ← par_mod s (x + 4), hq4])).1 hwx
          have HC2 : Hid (∀ wx, Below wr.heap.size wr wx → wx.cell? ⟨bp, q1, none⟩ = some (.int .u64 (z2.toNat : Int))) := fun wx hwx => cell_later (A64.cell H.out 0 rfl q1 (by rw [pacc_len]; exact hq1l) (by rw [pacc_get s q1 hq1l, hz2, ← par_mod s (x + 1), hq1])).1 hwx
          have HR1 : Hid (∀ wx, Calls Tryd.prog 67 #[.int .u64 z2.toNat, .int .i64 1] wx fun e w' => e = .returned (.int .u64 z3.toNat) ∧ Below wx.heap.size wx w') := by
            intro wx; rw [hz3]; exact rotK_below z2 1 (by omega) wx
          have HX4 : Hid (bits .xor .u64 (z1.toNat : Int) (z3.toNat : Int) = (z4.toNat : Int)) := by
            show bits .xor .u64 (z1.toNat : Int) (z3.toNat : Int) = (z4.toNat : Int)
            rw [u64_xor_nat _ _ z1.isLt z3.isLt, hz4, BitVec.toNat_xor]
          have HZ4 : Hid (z4 = par s (x + 4) ^^^ rot (par s (x + 1)) 1) := by show z4 = _; rw [hz4, hz3, hz2, hz1]
          clear hz1 hz2 hz3 hz4
          go_wp2
          refine wp_lax_list (by kernel_rfl) (by kernel_rfl) (by kernel_rfl) ?_
          refine wpL_move (.int .i64 x) rfl (by kernel_rfl) (by kernel_rfl) (by kernel_rfl) (by kernel_rfl) ?_
          refine wpL_run1 (x := .tmp 25) (.int .i64 x) (.int .i64 (n5 : Int)) (by kernel_rfl) (by kernel_rfl) (by kernel_rfl) (by kernel_rfl) (by kernel_rfl) (fun wx ρ hwx h0 hc => add_litN 5 rfl x hx10 (by decide) hn5 ρ wx h0 hc) ?_
          refine wpL_run1 (x := .tmp 26) (.int .i64 (n5 : Int)) (.int .i64 (n4 : Int)) (by kernel_rfl) (by kernel_rfl) (by kernel_rfl) (by kernel_rfl) (by kernel_rfl) (fun wx ρ hwx h0 hc => sub_litN rfl n4 (by omega) (by omega) ρ wx h0 hc) ?_
          refine wpL_run1 (x := .tmp 27) (.int .i64 (n4 : Int)) (.int .i64 (q4 : Int)) (by kernel_rfl) (by kernel_rfl) (by kernel_rfl) (by kernel_rfl) (by kernel_rfl) (fun wx ρ hwx h0 hc => rem_five rfl n4 (by omega) (by omega) ρ wx h0 hc) ?_
          refine wpL_run2 (x := .tmp 3) (y := .tmp 28) (.pointer (some ⟨bp, 0, none⟩)) (.int .i64 q4) (.pointer (some ⟨bp, q4, none⟩)) (by kernel_rfl) (by kernel_rfl) (by kernel_rfl) (by kernel_rfl) (by kernel_rfl) (by kernel_rfl) (fun wx ρ hwx h0 h1 hc => idx5 rfl q4 hq4l bp ρ wx h0 h1) ?_
          refine wpL_run1 (x := .tmp 29) (.pointer (some ⟨bp, q4, none⟩)) (.int .u64 z1.toNat) (by kernel_rfl) (by kernel_rfl) (by kernel_rfl) (by kernel_rfl) (by kernel_rfl) (fun wx ρ hwx h0 hc => load64 rfl ρ (HC1.out wx hwx) h0) ?_
          refine wpL_move (.int .i64 x) rfl (by kernel_rfl) (by kernel_rfl) (by kernel_rfl) (by kernel_rfl) ?_
          refine wpL_run1 (x := .tmp 31) (.int .i64 x) (.int .i64 (n1 : Int)) (by kernel_rfl) (by kernel_rfl) (by kernel_rfl) (by kernel_rfl) (by kernel_rfl) (fun wx ρ hwx h0 hc => add_litN 1 rfl x hx10 (by decide) hn1 ρ wx h0 hc) ?_
          refine wpL_run1 (x := .tmp 32) (.int .i64 (n1 : Int)) (.int .i64 (q1 : Int)) (by kernel_rfl) (by kernel_rfl) (by kernel_rfl) (by kernel_rfl) (by kernel_rfl) (fun wx ρ hwx h0 hc => rem_five rfl n1 (by omega) (by omega) ρ wx h0 hc) ?_
          refine wpL_run2 (x := .tmp 3) (y := .tmp 33) (.pointer (some ⟨bp, 0, none⟩)) (.int .i64 q1) (.pointer (some ⟨bp, q1, none⟩)) (by kernel_rfl) (by kernel_rfl) (by kernel_rfl) (by kernel_rfl) (by kernel_rfl) (by kernel_rfl) (fun wx ρ hwx h0 h1 hc => idx5 rfl q1 hq1l bp ρ wx h0 h1) ?_
          refine wpL_run1 (x := .tmp 34) (.pointer (some ⟨bp, q1, none⟩)) (.int .u64 z2.toNat) (by kernel_rfl) (by kernel_rfl) (by kernel_rfl) (by kernel_rfl) (by kernel_rfl) (fun wx ρ hwx h0 hc => load64 rfl ρ (HC2.out wx hwx) h0) ?_
          refine wpL_fn (.int .u64 z3.toNat) [.int .u64 z2.toNat, .int .i64 1] rfl (by kernel_rfl) (by kernel_rfl) (by kernel_rfl) (by kernel_rfl) (fun _ _ => by simp [go_sem]) (fun wx hwx => HR1.out wx) ?_
          refine wpL_run2 (x := .tmp 30) (y := .tmp 36) (.int .u64 z1.toNat) (.int .u64 z3.toNat) (.int .u64 z4.toNat) (by kernel_rfl) (by kernel_rfl) (by kernel_rfl) (by kernel_rfl) (by kernel_rfl) (by kernel_rfl) (fun wx ρ hwx h0 h1 hc => by simp [h0, h1, go_sem, HX4.out]) ?_
          refine wpL_assign (.int .u64 z4.toNat) rfl (by kernel_rfl) (by kernel_rfl) (by kernel_rfl) (by kernel_rfl) ?_
          refine wpL_end (by kernel_rfl) (fun wd hwd => ?_)
          simp only [FinL, setL, List.set_cons_zero, List.set_cons_succ]
          have G2 : Hid (Own.St w.heap.size w wd [A64 bp 119 (pacc s 25), A64 br 76 (List.replicate 25 0), A64 bs 76 (thst s (5 * x + 0))]) := H.out.later hwd
          clear hwd HC1 HC2 HR1 HX4 hq1 hq4 H hn5 hn4 hn1
          go_wp2
          go_loopw [38] (fun i wr => ∃ y : Nat, y ≤ 5 ∧ i = .int .i64 y ∧ Own.St w.heap.size w wr [A64 bp 119 (pacc s 25), A64 br 76 (List.replicate 25 0), A64 bs 76 (thst s (5 * x + y))]) (fun i _ => 5 - (intOf i).toNat)
          case atStart => exact ⟨0, by omega, rfl, G2.out⟩
          case round =>
            obtain ⟨y, hy5, rfl, G⟩ := hrel
            have G := Lib.hid G
            by_cases hy : (y : Int) < 5
            · have hyn : y < 5 := by omega
              obtain ⟨i, hi⟩ : ∃ i, i = x % 5 + 5 * (y % 5) := ⟨_, rfl⟩
              have hi' : i = x + 5 * y := by omega
              have hil : i < 25 := by omega
              have hil' : (i : Int) < 25 := by omega
              obtain ⟨z5, hz5⟩ : ∃ z, z = at' s x y := ⟨_, rfl⟩
              obtain ⟨z6, hz6⟩ : ∃ z, z = z5 ^^^ z4 := ⟨_, rfl⟩
              have HX6 : Hid (bits .xor .u64 (z5.toNat : Int) (z4.toNat : Int) = (z6.toNat : Int)) := by
                show bits .xor .u64 (z5.toNat : Int) (z4.toNat : Int) = (z6.toNat : Int)
                rw [u64_xor_nat _ _ z5.isLt z4.isLt, hz6, BitVec.toNat_xor]
              have hxor : bits .xor .u64 (z5.toNat : Int) (z4.toNat : Int) = (z6.toNat : Int) := HX6.out
              have CA := Lib.hid (atK_nat x y i (by omega) (by omega) hi wr)
              obtain ⟨cp, fp⟩ := A64.cell G.out 2 rfl i (by rw [thst_len]; exact hil) (by rw [hi', thst_get s x y hxn hyn, ← hz5])
              have PUT : Hid (Own.St w.heap.size w (wr.setCell ⟨bs, i, none⟩ (.int .u64 (z6.toNat : Int))) [A64 bp 119 (pacc s 25), A64 br 76 (List.replicate 25 0), A64 bs 76 (thst s (5 * x + (y + 1)))]) := by
                have h := A64.store G.out 2 rfl i z6
                have e : (thst s (5 * x + y)).set i z6 = thst s (5 * x + (y + 1)) := by rw [hi', hz6, hz5, HZ4.out, thst_set s x y hxn hyn]
                rw [e] at h
                exact h
              clear hz5 hz6 HX6 hi hi'
              go_wp2_with (fail)
              refine CA.out.mono ?_
              rintro e w' ⟨rfl, rfl⟩
              go_wp2
              go_roundw
              case rel => exact ⟨y + 1, by omega, by go_num, PUT.out⟩
              case measure => simp [intOf]; omega
            · have G3 : Hid (Own.St w.heap.size w wr [A64 bp 119 (pacc s 25), A64 br 76 (List.replicate 25 0), A64 bs 76 (thst s (5 * (x + 1)))]) := by
                have h := G.out
                rw [show 5 * x + y = 5 * (x + 1) by omega] at h
                exact h
              clear hy5
              go_wp2
              go_roundw
              case rel => exact ⟨x + 1, by omega, by go_num, G3.out⟩
              case measure => simp [intOf]; omega
        · obtain ⟨rs, hrs⟩ : ∃ r, r = theta s := ⟨_, rfl⟩
          have LR : Hid (rs.length = 25) := by rw [hrs]; exact mk_len _
          have H5 : Hid (Own.St w.heap.size w wr [A64 bp 119 (pacc s 25), A64 br 76 (List.replicate 25 0), A64 bs 76 rs]) := by
            have h := H.out
            rw [show 5 * x = 25 by omega, thst_all, ← hrs] at h
            exact h
          have HRS := Lib.hid hrs
          clear hrs H hx5
          have LAST := Lib.hid (A64.setAll H5.out 1 rfl rs (by rw [LR.out]; rfl))
          have ROW := Lib.hid (A64.row H5.out 2 rfl)
          have THERE := Lib.hid (A64.there H5.out 1 rfl rs (by rw [LR.out]; rfl))
          have INFO2 := Lib.hid (info_lanes rs LR.out)
          have ONE := Lib.hid (one_cells rs)
          go_wp2_with (first
            | (refine wpList_load_row rfl 76 (.tmp 1) rfl bs rfl 76 _ (0, 0) _ ROW.out Tryd.underlying76 rfl INFO2.out ?_)
            | (refine wpList_store_mid rfl 76 (.tmp 2) (.tmp 51) rfl br 0 (rs.map u64V).toArray rfl rfl THERE.out INFO2.out ONE.out ?_))
          have END := Lib.hid (A64.row LAST.out 1 rfl)
          refine bodyPost_ret (results_cell_row rfl _ _ br 76 _ (0, 0) _ rfl END.out Tryd.underlying76 rfl INFO2.out) rfl ?_
          refine ⟨?_, LAST.out.below⟩
          rw [HRS.out]

end Kec
end Go.Proofs.YtllmogicmimjlaaDoor

end
section
namespace Go.Proofs.YtllmogicmimjlaaDoor
open Go.RowKit Go.Own
namespace Kec
open Go.KecM

theorem idxTab {o : Oper} {y : Tmp} (ho : o.op = .indexAddr 118 (.global 0) (.tmp y)) (k : Nat) (hk : k < 25) : ∀ (ρ : Operand → Value) w, ρ (.global 0) = .pointer (some ⟨0, 0, none⟩) → ρ (.tmp y) = .int .i64 k → (execOp ρ o).run Tryd.prog w = .ok (.value (.pointer (some ⟨0, k, none⟩))) w := by
  intro ρ w h0 h1
  have hk' : (k : Int) < 25 := by omega
  simp [execOp, ho, h0, h1, go_sem, hk']
theorem loadInt {o : Oper} {x : Tmp} (ho : o.op = .load 3 (.tmp x)) {a : Addr} {n : Nat} (ρ : Operand → Value) {w : World} (hc : w.cell? a = some (.int .i64 (n : Int))) (h0 : ρ (.tmp x) = .pointer (some a)) : (execOp ρ o).run Tryd.prog w = .ok (.value (.int .i64 (n : Int))) w := by
  simp [execOp, ho, h0, go_sem, hc]

set_option maxHeartbeats 4000000 in
theorem rotate_any (s : KecM.St) (hs : s.length = 25) (w : World) (TB : Tab w) :
    Calls Tryd.prog 60 #[.agg (s.map u64V).toArray] w fun e w' => e = .returned (.agg ((rho s).map u64V).toArray) ∧ Below w.heap.size w w' := by
  have TAB := Lib.hid TB
  clear TB
  have HSL := Lib.hid hs
  clear hs
  have INFO := Lib.hid (info_lanes s HSL.out)
  go_enter Tryd.func60, Tryd.ntmps60
  have hst := A64.box (A64.box (Own.St.start w) 76 s) 76 (List.replicate 25 0)
  simp only [size_alloc'] at hst
  go_wp2
  change Code.wp _ _ _ _ ((w.alloc (.cells (s.map u64V).toArray 76)).alloc (.cells ((List.replicate 25 (0 : KecM.W)).map u64V).toArray 76))
  generalize (w.alloc (.cells (s.map u64V).toArray 76)).alloc (.cells ((List.replicate 25 (0 : KecM.W)).map u64V).toArray 76) = W1 at hst ⊢
  obtain ⟨bs, hbs⟩ : ∃ b, b = w.heap.size := ⟨_, rfl⟩
  obtain ⟨br, hbr⟩ : ∃ b, b = w.heap.size + 1 := ⟨_, rfl⟩
  rw [← hbr] at hst ⊢
  have HST : Hid (Own.St w.heap.size w W1 [A64 br 76 (List.replicate 25 0), A64 bs 76 (rhst s 0)]) := by rw [hbs, rhst_zero s HSL.out]; exact hst
  rw [← hbs]
  clear hst hbs hbr
  go_loopw [4] (fun i wr => ∃ x : Nat, x ≤ 25 ∧ i = .int .i64 x ∧ Own.St w.heap.size w wr [A64 br 76 (List.replicate 25 0), A64 bs 76 (rhst s x)]) (fun i _ => 25 - (intOf i).toNat)
  case atStart => exact ⟨0, by omega, rfl, HST.out⟩
  case round =>
    obtain ⟨x, hx25, rfl, H⟩ := hrel
    have H := Lib.hid H
    by_cases hx : (x : Int) < 25
    · have hlx : x < 25 := by omega
      obtain ⟨z1, hz1⟩ : ∃ z, z = s.getD x 0 := ⟨_, rfl⟩
      obtain ⟨n, hn⟩ : ∃ n, n = turns.getD x 0 := ⟨_, rfl⟩
      obtain ⟨z2, hz2⟩ : ∃ z, z = rot z1 n := ⟨_, rfl⟩
      have hn64 : n < 64 := by
        have := turn_lt (x % 5) (x / 5)
        unfold KecM.turn at this
        rw [show x % 5 % 5 + 5 * (x / 5 % 5) = x by omega, ← hn] at this
        exact this
      have HC1 : Hid (∀ wx, Below wr.heap.size wr wx → wx.cell? ⟨bs, x, none⟩ = some (.int .u64 (z1.toNat : Int))) := fun wx hwx => cell_later (A64.cell H.out 1 rfl x (by rw [rhst_len]; exact hlx) (by rw [rhst_get s x hlx, hz1])).1 hwx
      have HT1 : Hid (∀ wx, Below wr.heap.size wr wx → wx.cell? ⟨0, x, none⟩ = some (.int .i64 (n : Int))) := fun wx hwx => by
        rw [hn]; exact TAB.out.later (H.out.below.trans (hwx.mono H.out.size)) x hlx
      have HR1 : Hid (∀ wx, Calls Tryd.prog 67 #[.int .u64 z1.toNat, .int .i64 n] wx fun e w' => e = .returned (.int .u64 z2.toNat) ∧ Below wx.heap.size wx w') := by
        intro wx; rw [hz2]; exact rotK_below z1 n hn64 wx
      have HZ : Hid ((rhst s x).set x z2 = rhst s (x + 1)) := by show (rhst s x).set x z2 = _; rw [hz2, hz1, hn, rhst_set]
      clear hz1 hn hz2 hn64
      go_wp2
      refine wp_laxT_list 9 (by kernel_rfl) (by kernel_rfl) (by kernel_rfl) (by kernel_rfl) (by kernel_rfl) ?_
      simp only [List.take_succ_cons, List.take_zero, List.drop_succ_cons, List.drop_zero]
      refine wpL_move (.int .i64 x) rfl (by kernel_rfl) (by kernel_rfl) (by kernel_rfl) (by kernel_rfl) ?_
      refine wpL_move (.int .i64 x) rfl (by kernel_rfl) (by kernel_rfl) (by kernel_rfl) (by kernel_rfl) ?_
      refine wpL_run2 (x := .tmp 1) (y := .tmp 8) (.pointer (some ⟨bs, 0, none⟩)) (.int .i64 x) (.pointer (some ⟨bs, x, none⟩)) (by kernel_rfl) (by kernel_rfl) (by kernel_rfl) (by kernel_rfl) (by kernel_rfl) (by kernel_rfl) (fun wx ρ hwx h0 h1 hc => idx25 rfl x hlx bs ρ wx h0 h1) ?_
      refine wpL_run1 (x := .tmp 9) (.pointer (some ⟨bs, x, none⟩)) (.int .u64 z1.toNat) (by kernel_rfl) (by kernel_rfl) (by kernel_rfl) (by kernel_rfl) (by kernel_rfl) (fun wx ρ hwx h0 hc => load64 rfl ρ (HC1.out wx hwx) h0) ?_
      refine wpL_move (.int .i64 x) rfl (by kernel_rfl) (by kernel_rfl) (by kernel_rfl) (by kernel_rfl) ?_
      refine wpL_run2 (x := .global 0) (y := .tmp 11) (.pointer (some ⟨0, 0, none⟩)) (.int .i64 x) (.pointer (some ⟨0, x, none⟩)) (by kernel_rfl) (by kernel_rfl) (by kernel_rfl) (by kernel_rfl) (by kernel_rfl) (by kernel_rfl) (fun wx ρ hwx h0 h1 hc => idxTab rfl x hlx ρ wx h0 h1) ?_
      refine wpL_run1 (x := .tmp 12) (.pointer (some ⟨0, x, none⟩)) (.int .i64 n) (by kernel_rfl) (by kernel_rfl) (by kernel_rfl) (by kernel_rfl) (by kernel_rfl) (fun wx ρ hwx h0 hc => loadInt rfl ρ (HT1.out wx hwx) h0) ?_
      refine wpL_fn (.int .u64 z2.toNat) [.int .u64 z1.toNat, .int .i64 n] rfl (by kernel_rfl) (by kernel_rfl) (by kernel_rfl) (by kernel_rfl) (fun _ _ => by simp [go_sem]) (fun wx hwx => HR1.out wx) ?_
      refine wpL_run2 (x := .tmp 1) (y := .tmp 7) (.pointer (some ⟨bs, 0, none⟩)) (.int .i64 x) (.pointer (some ⟨bs, x, none⟩)) (by kernel_rfl) (by kernel_rfl) (by kernel_rfl) (by kernel_rfl) (by kernel_rfl) (by kernel_rfl) (fun wx ρ hwx h0 h1 hc => idx25 rfl x hlx bs ρ wx h0 h1) ?_
      refine wpL_end (by kernel_rfl) (fun wd hwd => ?_)
      simp only [FinL, setL, List.set_cons_zero, List.set_cons_succ]
      have G2 := Lib.hid (H.out.later hwd)
      obtain ⟨cp, fp⟩ := A64.cell G2.out 1 rfl x (by rw [rhst_len]; exact hlx) rfl
      have PUT := Lib.hid (A64.store G2.out 1 rfl x z2)
      clear hwd HC1 HT1 HR1 H
      go_wp2
      go_roundw
      case rel =>
        have h := PUT.out
        rw [HZ.out] at h
        exact ⟨x + 1, by omega, by go_num, h⟩
      case measure => simp [intOf]; omega
    · obtain ⟨rs, hrs⟩ : ∃ r, r = rho s := ⟨_, rfl⟩
      have LR : Hid (rs.length = 25) := by rw [hrs]; exact rho_len _
      have H5 : Hid (Own.St w.heap.size w wr [A64 br 76 (List.replicate 25 0), A64 bs 76 rs]) := by
        have h := H.out
        rw [show x = 25 by omega, rhst_all, ← hrs] at h
        exact h
      have HRS := Lib.hid hrs
      clear hrs H hx25
      have LAST := Lib.hid (A64.setAll H5.out 0 rfl rs (by rw [LR.out]; rfl))
      have ROW := Lib.hid (A64.row H5.out 1 rfl)
      have THERE := Lib.hid (A64.there H5.out 0 rfl rs (by rw [LR.out]; rfl))
      have INFO2 := Lib.hid (info_lanes rs LR.out)
      have ONE := Lib.hid (one_cells rs)
      go_wp2_with (first
        | (refine wpList_load_row rfl 76 (.tmp 1) rfl bs rfl 76 _ (0, 0) _ ROW.out Tryd.underlying76 rfl INFO2.out ?_)
        | (refine wpList_store_mid rfl 76 (.tmp 2) (.tmp 17) rfl br 0 (rs.map u64V).toArray rfl rfl THERE.out INFO2.out ONE.out ?_))
      have END := Lib.hid (A64.row LAST.out 0 rfl)
      refine bodyPost_ret (results_cell_row rfl _ _ br 76 _ (0, 0) _ rfl END.out Tryd.underlying76 rfl INFO2.out) rfl ?_
      refine ⟨?_, LAST.out.below⟩
      rw [HRS.out]

set_option maxHeartbeats 4000000 in
theorem move_any (s : KecM.St) (hs : s.length = 25) (w : World) :
    Calls Tryd.prog 63 #[.agg (s.map u64V).toArray] w fun e w' => e = .returned (.agg ((pim s).map u64V).toArray) ∧ Below w.heap.size w w' := by
  have HSL := Lib.hid hs
  clear hs
  have INFO := Lib.hid (info_lanes s HSL.out)
  go_enter Tryd.func63, Tryd.ntmps63
  have hst := A64.box (A64.box (A64.box (Own.St.start w) 76 s) 76 (List.replicate 25 0)) 76 (List.replicate 25 0)
  simp only [size_alloc'] at hst
  go_wp2
  change Code.wp _ _ _ _ (((w.alloc (.cells (s.map u64V).toArray 76)).alloc (.cells ((List.replicate 25 (0 : KecM.W)).map u64V).toArray 76)).alloc (.cells ((List.replicate 25 (0 : KecM.W)).map u64V).toArray 76))
  generalize ((w.alloc (.cells (s.map u64V).toArray 76)).alloc (.cells ((List.replicate 25 (0 : KecM.W)).map u64V).toArray 76)).alloc (.cells ((List.replicate 25 (0 : KecM.W)).map u64V).toArray 76) = W1 at hst ⊢
  obtain ⟨bs, hbs⟩ : ∃ b, b = w.heap.size := ⟨_, rfl⟩
  obtain ⟨br, hbr⟩ : ∃ b, b = w.heap.size + 1 := ⟨_, rfl⟩
  obtain ⟨bm, hbm⟩ : ∃ b, b = w.heap.size + 1 + 1 := ⟨_, rfl⟩
  rw [← hbm, ← hbr] at hst ⊢
  have HST : Hid (Own.St w.heap.size w W1 [A64 bm 76 (pist s (5 * 0)), A64 br 76 (List.replicate 25 0), A64 bs 76 s]) := by rw [hbs, Nat.mul_zero, pist_zero]; exact hst
  rw [← hbs]
  clear hst hbs hbr hbm
  go_loopw [6] (fun i wr => ∃ x : Nat, x ≤ 5 ∧ i = .int .i64 x ∧ Own.St w.heap.size w wr [A64 bm 76 (pist s (5 * x)), A64 br 76 (List.replicate 25 0), A64 bs 76 s]) (fun i _ => 5 - (intOf i).toNat)
  case atStart => exact ⟨0, by omega, rfl, HST.out⟩
  case round =>
    obtain ⟨x, hx5, rfl, H⟩ := hrel
    have H := Lib.hid H
    by_cases hx : (x : Int) < 5
    · have hxn : x < 5 := by omega
      obtain ⟨wo, hwo⟩ : ∃ wo, wo = wr := ⟨_, rfl⟩
      rw [← hwo] at H ⊢
      clear hwo
      go_wp2
      go_loopw [9] (fun i wr => ∃ y : Nat, y ≤ 5 ∧ i = .int .i64 y ∧ Own.St w.heap.size w wr [A64 bm 76 (pist s (5 * x + y)), A64 br 76 (List.replicate 25 0), A64 bs 76 s]) (fun i _ => 5 - (intOf i).toNat)
      case atStart => exact ⟨0, by omega, rfl, H.out⟩
      case round =>
        obtain ⟨y, hy5, rfl, G⟩ := hrel
        have G := Lib.hid G
        by_cases hy : (y : Int) < 5
        · have hyn : y < 5 := by omega
          obtain ⟨i, hi⟩ : ∃ i, i = x % 5 + 5 * (y % 5) := ⟨_, rfl⟩
          have hi' : i = x + 5 * y := by omega
          have hil : i < 25 := by omega
          have hil' : (i : Int) < 25 := by omega
          obtain ⟨k, hk⟩ : ∃ k, k = y % 5 + 5 * ((2 * x + 3 * y) % 5) := ⟨_, rfl⟩
          have hk' : k = y + 5 * ((2 * x + 3 * y) % 5) := by omega
          have hkl : k < 25 := by omega
          have hkl' : (k : Int) < 25 := by omega
          obtain ⟨z, hz⟩ : ∃ z, z = at' s x y := ⟨_, rfl⟩
          have C1 : Hid (Calls Tryd.prog 68 #[.int .i64 y, .int .i64 (2 * (x : Int) + 3 * (y : Int))] wr fun e w' => e = .returned (.int .i64 k) ∧ wr = w') := by
            have h := atK_nat y (2 * x + 3 * y) k (by omega) (by omega) hk wr
            rw [show ((2 * x + 3 * y : Nat) : Int) = 2 * (x : Int) + 3 * (y : Int) by omega] at h
            exact h
          have C2 := Lib.hid (atK_nat x y i (by omega) (by omega) hi wr)
          have ci := (A64.cell G.out 2 rfl i (by rw [HSL.out]; exact hil) (by rw [hi', at_get s x y hxn hyn, ← hz])).1
          obtain ⟨cp, fp⟩ := A64.cell G.out 0 rfl k (by rw [pist_len]; exact hkl) rfl
          have PUT : Hid (Own.St w.heap.size w (wr.setCell ⟨bm, k, none⟩ (.int .u64 (z.toNat : Int))) [A64 bm 76 (pist s (5 * x + (y + 1))), A64 br 76 (List.replicate 25 0), A64 bs 76 s]) := by
            have h := A64.store G.out 0 rfl k z
            have e : (pist s (5 * x + y)).set k z = pist s (5 * x + (y + 1)) := by rw [hk', hz, pist_set s x y hxn hyn]
            rw [e] at h
            exact h
          clear hz hi hi' hk hk'
          go_wp2_with (fail)
          refine C1.out.mono ?_
          rintro e w' ⟨rfl, rfl⟩
          go_wp2_with (fail)
          refine C2.out.mono ?_
          rintro e w' ⟨rfl, rfl⟩
          go_wp2
          go_roundw
          case rel => exact ⟨y + 1, by omega, by go_num, PUT.out⟩
          case measure => simp [intOf]; omega
        · have G3 : Hid (Own.St w.heap.size w wr [A64 bm 76 (pist s (5 * (x + 1))), A64 br 76 (List.replicate 25 0), A64 bs 76 s]) := by
            have h := G.out
            rw [show 5 * x + y = 5 * (x + 1) by omega] at h
            exact h
          clear hy5
          go_wp2
          go_roundw
          case rel => exact ⟨x + 1, by omega, by go_num, G3.out⟩
          case measure => simp [intOf]; omega
    · obtain ⟨rs, hrs⟩ : ∃ r, r = pim s := ⟨_, rfl⟩
      have LR : Hid (rs.length = 25) := by rw [hrs]; exact mk_len _
      have H5 : Hid (Own.St w.heap.size w wr [A64 bm 76 rs, A64 br 76 (List.replicate 25 0), A64 bs 76 s]) := by
        have h := H.out
        rw [show 5 * x = 25 by omega, pist_all, ← hrs] at h
        exact h
      have HRS := Lib.hid hrs
      clear hrs H hx5
      have LAST := Lib.hid (A64.setAll H5.out 1 rfl rs (by rw [LR.out]; rfl))
      have ROW := Lib.hid (A64.row H5.out 0 rfl)
      have THERE := Lib.hid (A64.there H5.out 1 rfl rs (by rw [LR.out]; rfl))
      have INFO2 := Lib.hid (info_lanes rs LR.out)
      have ONE := Lib.hid (one_cells rs)
      go_wp2_with (first
        | (refine wpList_load_row rfl 76 (.tmp 3) rfl bm rfl 76 _ (0, 0) _ ROW.out Tryd.underlying76 rfl INFO2.out ?_)
        | (refine wpList_store_mid rfl 76 (.tmp 2) (.tmp 27) rfl br 0 (rs.map u64V).toArray rfl rfl THERE.out INFO2.out ONE.out ?_))
      have END := Lib.hid (A64.row LAST.out 1 rfl)
      refine bodyPost_ret (results_cell_row rfl _ _ br 76 _ (0, 0) _ rfl END.out Tryd.underlying76 rfl INFO2.out) rfl ?_
      refine ⟨?_, LAST.out.below⟩
      rw [HRS.out]

set_option maxHeartbeats 4000000 in
theorem combine_any (s : KecM.St) (hs : s.length = 25) (w : World) :
    Calls Tryd.prog 62 #[.agg (s.map u64V).toArray] w fun e w' => e = .returned (.agg ((chi s).map u64V).toArray) ∧ Below w.heap.size w w' := by
  have HSL := Lib.hid hs
  clear hs
  have INFO := Lib.hid (info_lanes s HSL.out)
  go_enter Tryd.func62, Tryd.ntmps62
  have hst := A64.box (A64.box (Own.St.start w) 76 s) 76 (List.replicate 25 0)
  have hst2 := A64.box hst 76 (List.replicate 25 0)
  simp only [size_alloc'] at hst hst2
  have ROW := Lib.hid (A64.row hst 1 rfl)
  have THERE := Lib.hid (A64.there hst2 0 rfl s (by rw [HSL.out]; rfl))
  have ONE := Lib.hid (one_cells s)
  have ALL := Lib.hid (A64.setAll hst2 0 rfl s (by rw [HSL.out]; rfl))
  clear hst hst2
  go_wp2_with (first
    | (refine wpList_load_row rfl 76 (.tmp 1) rfl w.heap.size rfl 76 _ (0, 0) _ ROW.out Tryd.underlying76 rfl INFO.out ?_)
    | (refine wpList_store_mid rfl 76 (.tmp 3) (.tmp 6) rfl (w.heap.size + 1 + 1) 0 (s.map u64V).toArray rfl rfl THERE.out INFO.out ONE.out ?_))
  clear THERE ROW
  change Code.wp _ _ _ _ ((((w.alloc (.cells (s.map u64V).toArray 76)).alloc (.cells ((List.replicate 25 (0 : KecM.W)).map u64V).toArray 76)).alloc (.cells ((List.replicate 25 (0 : KecM.W)).map u64V).toArray 76)).setCells (w.heap.size + 1 + 1) 0 (s.map u64V).toArray.toList)
  generalize (((w.alloc (.cells (s.map u64V).toArray 76)).alloc (.cells ((List.replicate 25 (0 : KecM.W)).map u64V).toArray 76)).alloc (.cells ((List.replicate 25 (0 : KecM.W)).map u64V).toArray 76)).setCells (w.heap.size + 1 + 1) 0 (s.map u64V).toArray.toList = W1 at ALL ⊢
  obtain ⟨bs, hbs⟩ : ∃ b, b = w.heap.size := ⟨_, rfl⟩
  obtain ⟨br, hbr⟩ : ∃ b, b = w.heap.size + 1 := ⟨_, rfl⟩
  obtain ⟨bc, hbc⟩ : ∃ b, b = w.heap.size + 1 + 1 := ⟨_, rfl⟩
  rw [← hbc, ← hbr] at ALL ⊢
  have HST : Hid (Own.St w.heap.size w W1 [A64 bc 76 (chst s (5 * 0)), A64 br 76 (List.replicate 25 0), A64 bs 76 s]) := by rw [hbs, Nat.mul_zero, chst_zero s HSL.out]; exact ALL.out
  rw [← hbs]
  clear ALL hbs hbr hbc
  go_loopw [7] (fun i wr => ∃ x : Nat, x ≤ 5 ∧ i = .int .i64 x ∧ Own.St w.heap.size w wr [A64 bc 76 (chst s (5 * x)), A64 br 76 (List.replicate 25 0), A64 bs 76 s]) (fun i _ => 5 - (intOf i).toNat)
  case atStart => exact ⟨0, by omega, rfl, HST.out⟩
  case round =>
    obtain ⟨x, hx5, rfl, H⟩ := hrel
    have H := Lib.hid H
    by_cases hx : (x : Int) < 5
    · have hxn : x < 5 := by omega
      have hx10 : x ≤ 1000 := by omega
      obtain ⟨wo, hwo⟩ : ∃ wo, wo = wr := ⟨_, rfl⟩
      rw [← hwo] at H ⊢
      clear hwo
      go_wp2
      go_loopw [10] (fun i wr => ∃ y : Nat, y ≤ 5 ∧ i = .int .i64 y ∧ Own.St w.heap.size w wr [A64 bc 76 (chst s (5 * x + y)), A64 br 76 (List.replicate 25 0), A64 bs 76 s]) (fun i _ => 5 - (intOf i).toNat)
      case atStart => exact ⟨0, by omega, rfl, H.out⟩
      case round =>
        obtain ⟨y, hy5, rfl, G⟩ := hrel
        have G := Lib.hid G
        by_cases hy : (y : Int) < 5
        · have hyn : y < 5 := by omega
          obtain ⟨n1, hn1⟩ : ∃ n, n = x + 1 := ⟨_, rfl⟩
          obtain ⟨n2, hn2⟩ : ∃ n, n = x + 2 := ⟨_, rfl⟩
          obtain ⟨i0, hi0⟩ : ∃ i, i = x % 5 + 5 * (y % 5) := ⟨_, rfl⟩
          obtain ⟨i1, hi1⟩ : ∃ i, i = n1 % 5 + 5 * (y % 5) := ⟨_, rfl⟩
          obtain ⟨i2, hi2⟩ : ∃ i, i = n2 % 5 + 5 * (y % 5) := ⟨_, rfl⟩
          have hi0' : i0 = x + 5 * y := by omega
          have hli0 : i0 < 25 := by omega
          have hli1 : i1 < 25 := by omega
          have hli2 : i2 < 25 := by omega
          obtain ⟨z1, hz1⟩ : ∃ z, z = at' s x y := ⟨_, rfl⟩
          obtain ⟨z2, hz2⟩ : ∃ z, z = at' s (x + 2) y := ⟨_, rfl⟩
          obtain ⟨z3, hz3⟩ : ∃ z, z = at' s (x + 1) y := ⟨_, rfl⟩
          obtain ⟨z4, hz4⟩ : ∃ z, z = z2 &&& ~~~ z3 := ⟨_, rfl⟩
          obtain ⟨z5, hz5⟩ : ∃ z, z = z1 ^^^ z4 := ⟨_, rfl⟩
          have HC1 : Hid (∀ wx, Below wr.heap.size wr wx → wx.cell? ⟨bc, i0, none⟩ = some (.int .u64 (z1.toNat : Int))) := fun wx hwx => cell_later (A64.cell G.out 0 rfl i0 (by rw [chst_len]; exact hli0) (by rw [hi0', chst_get s x y hxn hyn, hz1])).1 hwx
          have HC2 : Hid (∀ wx, Below wr.heap.size wr wx → wx.cell? ⟨bs, i2, none⟩ = some (.int .u64 (z2.toNat : Int))) := fun wx hwx => cell_later (A64.cell G.out 2 rfl i2 (by rw [HSL.out]; exact hli2) (by rw [hz2, hi2, hn2]; rfl)).1 hwx
          have HC3 : Hid (∀ wx, Below wr.heap.size wr wx → wx.cell? ⟨bs, i1, none⟩ = some (.int .u64 (z3.toNat : Int))) := fun wx hwx => cell_later (A64.cell G.out 2 rfl i1 (by rw [HSL.out]; exact hli1) (by rw [hz3, hi1, hn1]; rfl)).1 hwx
          have HX4 : Hid (bits .andNot .u64 (z2.toNat : Int) (z3.toNat : Int) = (z4.toNat : Int)) := by
            show bits .andNot .u64 (z2.toNat : Int) (z3.toNat : Int) = (z4.toNat : Int)
            rw [u64_andNot_nat _ _ z2.isLt z3.isLt, hz4, BitVec.toNat_and, BitVec.toNat_not]
          have HX5 : Hid (bits .xor .u64 (z1.toNat : Int) (z4.toNat : Int) = (z5.toNat : Int)) := by
            show bits .xor .u64 (z1.toNat : Int) (z4.toNat : Int) = (z5.toNat : Int)
            rw [u64_xor_nat _ _ z1.isLt z4.isLt, hz5, BitVec.toNat_xor]
          have HZ : Hid ((chst s (5 * x + y)).set i0 z5 = chst s (5 * x + (y + 1))) := by
            show (chst s (5 * x + y)).set i0 z5 = _
            rw [hi0', hz5, hz4, hz3, hz2, hz1, chst_set s x y hxn hyn]
          clear hz1 hz2 hz3 hz4 hz5
          go_wp2
          refine wp_laxT_list 20 (by kernel_rfl) (by kernel_rfl) (by kernel_rfl) (by kernel_rfl) (by kernel_rfl) ?_
          simp only [List.take_succ_cons, List.take_zero, List.drop_succ_cons, List.drop_zero]
          refine wpL_move (.int .i64 x) rfl (by kernel_rfl) (by kernel_rfl) (by kernel_rfl) (by kernel_rfl) ?_
          refine wpL_move (.int .i64 y) rfl (by kernel_rfl) (by kernel_rfl) (by kernel_rfl) (by kernel_rfl) ?_
          refine wpL_fn (.int .i64 i0) [.int .i64 x, .int .i64 y] rfl (by kernel_rfl) (by kernel_rfl) (by kernel_rfl) (by kernel_rfl) (fun _ _ => by simp [go_sem]) (fun wx hwx => atK_below x y i0 (by omega) (by omega) hi0 wx) ?_
          refine wpL_run2 (x := .tmp 3) (y := .tmp 15) (.pointer (some ⟨bc, 0, none⟩)) (.int .i64 i0) (.pointer (some ⟨bc, i0, none⟩)) (by kernel_rfl) (by kernel_rfl) (by kernel_rfl) (by kernel_rfl) (by kernel_rfl) (by kernel_rfl) (fun wx ρ hwx h0 h1 hc => idx25 rfl i0 hli0 bc ρ wx h0 h1) ?_
          refine wpL_run1 (x := .tmp 16) (.pointer (some ⟨bc, i0, none⟩)) (.int .u64 z1.toNat) (by kernel_rfl) (by kernel_rfl) (by kernel_rfl) (by kernel_rfl) (by kernel_rfl) (fun wx ρ hwx h0 hc => load64 rfl ρ (HC1.out wx hwx) h0) ?_
          refine wpL_move (.int .i64 x) rfl (by kernel_rfl) (by kernel_rfl) (by kernel_rfl) (by kernel_rfl) ?_
          refine wpL_run1 (x := .tmp 18) (.int .i64 x) (.int .i64 (n2 : Int)) (by kernel_rfl) (by kernel_rfl) (by kernel_rfl) (by kernel_rfl) (by kernel_rfl) (fun wx ρ hwx h0 hc => add_litN 2 rfl x hx10 (by decide) hn2 ρ wx h0 hc) ?_
          refine wpL_move (.int .i64 y) rfl (by kernel_rfl) (by kernel_rfl) (by kernel_rfl) (by kernel_rfl) ?_
          refine wpL_fn (.int .i64 i2) [.int .i64 (n2 : Int), .int .i64 y] rfl (by kernel_rfl) (by kernel_rfl) (by kernel_rfl) (by kernel_rfl) (fun _ _ => by simp [go_sem]) (fun wx hwx => atK_below n2 y i2 (by omega) (by omega) hi2 wx) ?_
          refine wpL_run2 (x := .tmp 1) (y := .tmp 21) (.pointer (some ⟨bs, 0, none⟩)) (.int .i64 i2) (.pointer (some ⟨bs, i2, none⟩)) (by kernel_rfl) (by kernel_rfl) (by kernel_rfl) (by kernel_rfl) (by kernel_rfl) (by kernel_rfl) (fun wx ρ hwx h0 h1 hc => idx25 rfl i2 hli2 bs ρ wx h0 h1) ?_
          refine wpL_run1 (x := .tmp 22) (.pointer (some ⟨bs, i2, none⟩)) (.int .u64 z2.toNat) (by kernel_rfl) (by kernel_rfl) (by kernel_rfl) (by kernel_rfl) (by kernel_rfl) (fun wx ρ hwx h0 hc => load64 rfl ρ (HC2.out wx hwx) h0) ?_
          refine wpL_move (.int .i64 x) rfl (by kernel_rfl) (by kernel_rfl) (by kernel_rfl) (by kernel_rfl) ?_
          refine wpL_run1 (x := .tmp 24) (.int .i64 x) (.int .i64 (n1 : Int)) (by kernel_rfl) (by kernel_rfl) (by kernel_rfl) (by kernel_rfl) (by kernel_rfl) (fun wx ρ hwx h0 hc => add_litN 1 rfl x hx10 (by decide) hn1 ρ wx h0 hc) ?_
          refine wpL_move (.int .i64 y) rfl (by kernel_rfl) (by kernel_rfl) (by kernel_rfl) (by kernel_rfl) ?_
          refine wpL_fn (.int .i64 i1) [.int .i64 (n1 : Int), .int .i64 y] rfl (by kernel_rfl) (by kernel_rfl) (by kernel_rfl) (by kernel_rfl) (fun _ _ => by simp [go_sem]) (fun wx hwx => atK_below n1 y i1 (by omega) (by omega) hi1 wx) ?_
          refine wpL_run2 (x := .tmp 1) (y := .tmp 27) (.pointer (some ⟨bs, 0, none⟩)) (.int .i64 i1) (.pointer (some ⟨bs, i1, none⟩)) (by kernel_rfl) (by kernel_rfl) (by kernel_rfl) (by kernel_rfl) (by kernel_rfl) (by kernel_rfl) (fun wx ρ hwx h0 h1 hc => idx25 rfl i1 hli1 bs ρ wx h0 h1) ?_
          refine wpL_run1 (x := .tmp 28) (.pointer (some ⟨bs, i1, none⟩)) (.int .u64 z3.toNat) (by kernel_rfl) (by kernel_rfl) (by kernel_rfl) (by kernel_rfl) (by kernel_rfl) (fun wx ρ hwx h0 hc => load64 rfl ρ (HC3.out wx hwx) h0) ?_
          refine wpL_run2 (x := .tmp 23) (y := .tmp 29) (.int .u64 z2.toNat) (.int .u64 z3.toNat) (.int .u64 z4.toNat) (by kernel_rfl) (by kernel_rfl) (by kernel_rfl) (by kernel_rfl) (by kernel_rfl) (by kernel_rfl) (fun wx ρ hwx h0 h1 hc => by simp [h0, h1, go_sem, HX4.out]) ?_
          refine wpL_run2 (x := .tmp 17) (y := .tmp 30) (.int .u64 z1.toNat) (.int .u64 z4.toNat) (.int .u64 z5.toNat) (by kernel_rfl) (by kernel_rfl) (by kernel_rfl) (by kernel_rfl) (by kernel_rfl) (by kernel_rfl) (fun wx ρ hwx h0 h1 hc => by simp [h0, h1, go_sem, HX5.out]) ?_
          refine wpL_run2 (x := .tmp 3) (y := .tmp 15) (.pointer (some ⟨bc, 0, none⟩)) (.int .i64 i0) (.pointer (some ⟨bc, i0, none⟩)) (by kernel_rfl) (by kernel_rfl) (by kernel_rfl) (by kernel_rfl) (by kernel_rfl) (by kernel_rfl) (fun wx ρ hwx h0 h1 hc => idx25 rfl i0 hli0 bc ρ wx h0 h1) ?_
          refine wpL_end (by kernel_rfl) (fun wd hwd => ?_)
          simp only [FinL, setL, List.set_cons_zero, List.set_cons_succ]
          have G2 := Lib.hid (G.out.later hwd)
          obtain ⟨cp, fp⟩ := A64.cell G2.out 0 rfl i0 (by rw [chst_len]; exact hli0) rfl
          have PUT := Lib.hid (A64.store G2.out 0 rfl i0 z5)
          clear hwd HC1 HC2 HC3 HX4 HX5 hi0 hi1 hi2 hi0' hn1 hn2 G
          go_wp2
          go_roundw
          case rel =>
            have h := PUT.out
            rw [HZ.out] at h
            exact ⟨y + 1, by omega, by go_num, h⟩
          case measure => simp [intOf]; omega
        · have G3 : Hid (Own.St w.heap.size w wr [A64 bc 76 (chst s (5 * (x + 1))), A64 br 76 (List.replicate 25 0), A64 bs 76 s]) := by
            have h := G.out
            rw [show 5 * x + y = 5 * (x + 1) by omega] at h
            exact h
          clear hy5
          go_wp2
          go_roundw
          case rel => exact ⟨x + 1, by omega, by go_num, G3.out⟩
          case measure => simp [intOf]; omega
    · obtain ⟨rs, hrs⟩ : ∃ r, r = chi s := ⟨_, rfl⟩
      have LR : Hid (rs.length = 25) := by rw [hrs]; exact mk_len _
      have H5 : Hid (Own.St w.heap.size w wr [A64 bc 76 rs, A64 br 76 (List.replicate 25 0), A64 bs 76 s]) := by
        have h := H.out
        rw [show 5 * x = 25 by omega, chst_all, ← hrs] at h
        exact h
      have HRS := Lib.hid hrs
      clear hrs H hx5
      have LAST := Lib.hid (A64.setAll H5.out 1 rfl rs (by rw [LR.out]; rfl))
      have ROW := Lib.hid (A64.row H5.out 0 rfl)
      have THERE := Lib.hid (A64.there H5.out 1 rfl rs (by rw [LR.out]; rfl))
      have INFO2 := Lib.hid (info_lanes rs LR.out)
      have ONE := Lib.hid (one_cells rs)
      go_wp2_with (first
        | (refine wpList_load_row rfl 76 (.tmp 3) rfl bc rfl 76 _ (0, 0) _ ROW.out Tryd.underlying76 rfl INFO2.out ?_)
        | (refine wpList_store_mid rfl 76 (.tmp 2) (.tmp 35) rfl br 0 (rs.map u64V).toArray rfl rfl THERE.out INFO2.out ONE.out ?_))
      have END := Lib.hid (A64.row LAST.out 1 rfl)
      refine bodyPost_ret (results_cell_row rfl _ _ br 76 _ (0, 0) _ rfl END.out Tryd.underlying76 rfl INFO2.out) rfl ?_
      refine ⟨?_, LAST.out.below⟩
      rw [HRS.out]

end Kec
end Go.Proofs.YtllmogicmimjlaaDoor

end
section
namespace Go.Proofs.YtllmogicmimjlaaDoor
open Go.RowKit Go.Own
namespace Kec
open Go.KecM

theorem perm_next (n : Nat) (s : KecM.St) : roundM (markOf (n : Int)) (perm n s) = perm (n + 1) s := by
  show _ = roundM (markW n) (perm n s)
  unfold markOf
  rw [if_neg (by omega), Int.toNat_natCast]

end Kec
end Go.Proofs.YtllmogicmimjlaaDoor

end
section
namespace Go.Proofs.YtllmogicmimjlaaDoor
open Go.RowKit Go.Own
namespace Kec
open Go.KecM

set_option maxHeartbeats 4000000 in
theorem roundK_any (s : KecM.St) (hs : s.length = 25) (round : Int) (h0 : -9223372036854775808 ≤ round) (h1 : round ≤ 9223372036854775807) (w : World) (TB : Tab w) :
    Calls Tryd.prog 55 #[.agg (s.map u64V).toArray, .int .i64 round] w fun e w' => e = .returned (.agg ((roundM (markOf round) s).map u64V).toArray) ∧ Below w.heap.size w w' := by
  have TAB := Lib.hid TB
  have HSL := Lib.hid hs
  obtain ⟨s1, hs1⟩ : ∃ t, t = theta s := ⟨_, rfl⟩
  obtain ⟨s2, hs2⟩ : ∃ t, t = rho s1 := ⟨_, rfl⟩
  obtain ⟨s3, hs3⟩ : ∃ t, t = pim s2 := ⟨_, rfl⟩
  obtain ⟨s4, hs4⟩ : ∃ t, t = chi s3 := ⟨_, rfl⟩
  obtain ⟨z1, hz1⟩ : ∃ z, z = s4.getD 0 0 := ⟨_, rfl⟩
  obtain ⟨z2, hz2⟩ : ∃ z, z = markOf round := ⟨_, rfl⟩
  obtain ⟨z3, hz3⟩ : ∃ z, z = z1 ^^^ z2 := ⟨_, rfl⟩
  obtain ⟨rs, hrs⟩ : ∃ r, r = s4.set 0 z3 := ⟨_, rfl⟩
  have HRS : Hid (rs = roundM (markOf round) s) := by
    show rs = roundM (markOf round) s
    rw [hrs, hz3, hz1, hz2, hs4, hs3, hs2, hs1, pim_rho]; rfl
  have L1 : Hid (s1.length = 25) := by rw [hs1]; exact mk_len _
  have L2 : Hid (s2.length = 25) := by rw [hs2]; exact rho_len _
  have L3 : Hid (s3.length = 25) := by rw [hs3]; exact mk_len _
  have L4 : Hid (s4.length = 25) := by rw [hs4]; exact mk_len _
  have LR : Hid (rs.length = 25) := by show rs.length = 25; rw [hrs, List.length_set]; exact L4.out
  have C1 : Hid (∀ wx, Calls Tryd.prog 61 #[.agg (s.map u64V).toArray] wx fun e w' => e = .returned (.agg (s1.map u64V).toArray) ∧ Below wx.heap.size wx w') := by
    intro wx; rw [hs1]; exact spread_any s hs wx
  have C2 : Hid (∀ wx, Tab wx → Calls Tryd.prog 60 #[.agg (s1.map u64V).toArray] wx fun e w' => e = .returned (.agg (s2.map u64V).toArray) ∧ Below wx.heap.size wx w') := by
    intro wx h; rw [hs2]; exact rotate_any s1 L1.out wx h
  have C3 : Hid (∀ wx, Calls Tryd.prog 63 #[.agg (s2.map u64V).toArray] wx fun e w' => e = .returned (.agg (s3.map u64V).toArray) ∧ Below wx.heap.size wx w') := by
    intro wx; rw [hs3]; exact move_any s2 L2.out wx
  have C4 : Hid (∀ wx, Calls Tryd.prog 62 #[.agg (s3.map u64V).toArray] wx fun e w' => e = .returned (.agg (s4.map u64V).toArray) ∧ Below wx.heap.size wx w') := by
    intro wx; rw [hs4]; exact combine_any s3 L3.out wx
  have HMK : Hid (∀ wx, Calls Tryd.prog 64 #[.int .i64 round] wx fun e w' => e = .returned (.int .u64 z2.toNat) ∧ Below wx.heap.size wx w') := by
    intro wx
    rw [hz2]
    exact (markK_any round h0 h1 wx).mono fun _ _ h => ⟨h.1, h.2 ▸ Below.refl _ _⟩
  have HX3 : Hid (bits .xor .u64 (z1.toNat : Int) (z2.toNat : Int) = (z3.toNat : Int)) := by
    show bits .xor .u64 (z1.toNat : Int) (z2.toNat : Int) = (z3.toNat : Int)
    rw [u64_xor_nat _ _ z1.isLt z2.isLt, hz3, BitVec.toNat_xor]
  have HZ1 := Lib.hid hz1
  have HR := Lib.hid hrs
  have I0 := Lib.hid (info_lanes s HSL.out)
  have I2 := Lib.hid (info_lanes s2 L2.out)
  have I4 := Lib.hid (info_lanes s4 L4.out)
  have IR := Lib.hid (info_lanes rs LR.out)
  have O2 := Lib.hid (one_cells s2)
  have O4 := Lib.hid (one_cells s4)
  have OR := Lib.hid (one_cells rs)
  clear hs1 hs2 hs3 hs4 hz1 hz2 hz3 hrs hs TB h0 h1
  go_enter Tryd.func55, Tryd.ntmps55
  have hst := A64.box (A64.box (Own.St.start w) 76 s) 76 (List.replicate 25 0)
  simp only [size_alloc'] at hst
  have ROW := Lib.hid (A64.row hst 1 rfl)
  have HST0 := Lib.hid hst
  clear hst
  go_wp2_with (refine wpList_load_row rfl 76 (.tmp 2) rfl w.heap.size rfl 76 _ (0, 0) _ ROW.out Tryd.underlying76 rfl I0.out ?_)
  clear ROW
  refine (C1.out _).mono ?_
  rintro e wa ⟨rfl, hwa⟩
  obtain ⟨bs, hbs⟩ : ∃ b, b = w.heap.size := ⟨_, rfl⟩
  obtain ⟨br, hbr⟩ : ∃ b, b = w.heap.size + 1 := ⟨_, rfl⟩
  have GA : Hid (Own.St w.heap.size w wa [A64 br 76 (List.replicate 25 0), A64 bs 76 s]) := by rw [hbr, hbs]; exact HST0.out.later hwa
  rw [← hbr, ← hbs]
  clear hwa HST0 hbs hbr
  go_wp2_with (fail)
  refine (C2.out wa (TAB.out.later GA.out.below)).mono ?_
  rintro e wb ⟨rfl, hwb⟩
  have GB := Lib.hid (GA.out.later hwb)
  have ALL := Lib.hid (A64.setAll GB.out 1 rfl s2 (by rw [L2.out, HSL.out]))
  have THERE := Lib.hid (A64.there GB.out 1 rfl s2 (by rw [L2.out, HSL.out]))
  have ROW := Lib.hid (A64.row ALL.out 1 rfl)
  clear hwb GA GB
  go_wp2_with (first
    | (refine wpList_store_mid rfl 76 (.tmp 2) (.tmp 7) rfl bs 0 (s2.map u64V).toArray rfl rfl THERE.out I2.out O2.out ?_)
    | (refine wpList_load_row rfl 76 (.tmp 2) rfl bs rfl 76 _ (0, 0) _ ROW.out Tryd.underlying76 rfl I2.out ?_))
  refine (C3.out _).mono ?_
  rintro e wc ⟨rfl, hwc⟩
  have GC := Lib.hid (ALL.out.later hwc)
  clear hwc ALL THERE ROW
  go_wp2_with (fail)
  refine (C4.out wc).mono ?_
  rintro e wd ⟨rfl, hwd⟩
  have GD := Lib.hid (GC.out.later hwd)
  have ALL := Lib.hid (A64.setAll GD.out 1 rfl s4 (by rw [L2.out, L4.out]))
  have THERE := Lib.hid (A64.there GD.out 1 rfl s4 (by rw [L2.out, L4.out]))
  clear hwd GC GD
  go_wp2_with (refine wpList_store_mid rfl 76 (.tmp 2) (.tmp 10) rfl bs 0 (s4.map u64V).toArray rfl rfl THERE.out I4.out O4.out ?_)
  clear THERE
  obtain ⟨we, hwe⟩ : ∃ v, v = wd.setCells bs 0 (s4.map u64V).toArray.toList := ⟨_, rfl⟩
  rw [← hwe] at ALL ⊢
  clear hwe
  have HC1 : Hid (∀ wx, Below we.heap.size we wx → wx.cell? ⟨bs, 0, none⟩ = some (.int .u64 (z1.toNat : Int))) := fun wx hwx => cell_later (A64.cell ALL.out 1 rfl 0 (by rw [L4.out]; omega) HZ1.out.symm).1 hwx
  refine wp_laxT_list 6 (by kernel_rfl) (by kernel_rfl) (by kernel_rfl) (by kernel_rfl) (by kernel_rfl) ?_
  simp only [List.take_succ_cons, List.take_zero, List.drop_succ_cons, List.drop_zero]
  refine wpL_run1 (x := .tmp 2) (.pointer (some ⟨bs, 0, none⟩)) (.pointer (some ⟨bs, 0, none⟩)) (by kernel_rfl) (by kernel_rfl) (by kernel_rfl) (by kernel_rfl) (by kernel_rfl) (fun wx ρ hwx h0 hc => by simp [go_sem, h0, hc]) ?_
  refine wpL_run1 (x := .tmp 11) (.pointer (some ⟨bs, 0, none⟩)) (.int .u64 z1.toNat) (by kernel_rfl) (by kernel_rfl) (by kernel_rfl) (by kernel_rfl) (by kernel_rfl) (fun wx ρ hwx h0 hc => load64 rfl ρ (HC1.out wx hwx) h0) ?_
  refine wpL_move (.int .i64 round) rfl (by kernel_rfl) (by kernel_rfl) (by kernel_rfl) (by kernel_rfl) ?_
  refine wpL_fn (.int .u64 z2.toNat) [.int .i64 round] rfl (by kernel_rfl) (by kernel_rfl) (by kernel_rfl) (by kernel_rfl) (fun _ _ => by simp [go_sem]) (fun wx hwx => HMK.out wx) ?_
  refine wpL_run2 (x := .tmp 12) (y := .tmp 14) (.int .u64 z1.toNat) (.int .u64 z2.toNat) (.int .u64 z3.toNat) (by kernel_rfl) (by kernel_rfl) (by kernel_rfl) (by kernel_rfl) (by kernel_rfl) (by kernel_rfl) (fun wx ρ hwx h0 h1 hc => by simp [h0, h1, go_sem, HX3.out]) ?_
  refine wpL_run1 (x := .tmp 2) (.pointer (some ⟨bs, 0, none⟩)) (.pointer (some ⟨bs, 0, none⟩)) (by kernel_rfl) (by kernel_rfl) (by kernel_rfl) (by kernel_rfl) (by kernel_rfl) (fun wx ρ hwx h0 hc => by simp [go_sem, h0, hc]) ?_
  refine wpL_end (by kernel_rfl) (fun wf hwf => ?_)
  simp only [FinL, setL, List.set_cons_zero, List.set_cons_succ]
  have G2 := Lib.hid (ALL.out.later hwf)
  obtain ⟨cp, fp⟩ := A64.cell G2.out 1 rfl 0 (by rw [L4.out]; omega) rfl
  have PUT : Hid (Own.St w.heap.size w (wf.setCell ⟨bs, 0, none⟩ (.int .u64 (z3.toNat : Int))) [A64 br 76 (List.replicate 25 0), A64 bs 76 rs]) := by
    have h := A64.store G2.out 1 rfl 0 z3
    rw [← HR.out] at h
    exact h
  clear hwf HC1 HMK HX3 ALL
  have LAST := Lib.hid (A64.setAll PUT.out 0 rfl rs (by rw [LR.out]; rfl))
  have ROW := Lib.hid (A64.row PUT.out 1 rfl)
  have THERE := Lib.hid (A64.there PUT.out 0 rfl rs (by rw [LR.out]; rfl))
  go_wp2_with (first
    | (refine wpList_load_row rfl 76 (.tmp 2) rfl bs rfl 76 _ (0, 0) _ ROW.out Tryd.underlying76 rfl IR.out ?_)
    | (refine wpList_store_mid rfl 76 (.tmp 4) (.tmp 17) rfl br 0 (rs.map u64V).toArray rfl rfl THERE.out IR.out OR.out ?_))
  have END := Lib.hid (A64.row LAST.out 0 rfl)
  refine bodyPost_ret (results_cell_row rfl _ _ br 76 _ (0, 0) _ rfl END.out Tryd.underlying76 rfl IR.out) rfl ?_
  refine ⟨?_, LAST.out.below⟩
  rw [HRS.out]

set_option maxHeartbeats 400000 in
theorem permK_any (s : KecM.St) (hs : s.length = 25) (w : World) (TB : Tab w) :
    Calls Tryd.prog 38 #[.agg (s.map u64V).toArray] w fun e w' => e = .returned (.agg ((perm 24 s).map u64V).toArray) ∧ Below w.heap.size w w' := by
  have TAB := Lib.hid TB
  have HSL := Lib.hid hs
  clear hs TB
  go_enter Tryd.func38, Tryd.ntmps38
  go_wp2
  have hst := A64.box (A64.box (Own.St.start w) 76 s) 76 (List.replicate 25 0)
  simp only [size_alloc'] at hst
  change Code.wp _ _ _ _ ((w.alloc (.cells (s.map u64V).toArray 76)).alloc (.cells ((List.replicate 25 (0 : KecM.W)).map u64V).toArray 76))
  generalize (w.alloc (.cells (s.map u64V).toArray 76)).alloc (.cells ((List.replicate 25 (0 : KecM.W)).map u64V).toArray 76) = W1 at hst ⊢
  obtain ⟨bs, hbs⟩ : ∃ b, b = w.heap.size := ⟨_, rfl⟩
  obtain ⟨br, hbr⟩ : ∃ b, b = w.heap.size + 1 := ⟨_, rfl⟩
  rw [← hbr] at hst ⊢
  have HST : Hid (Own.St w.heap.size w W1 [A64 br 76 (List.replicate 25 0), A64 bs 76 s]) := by rw [hbs]; exact hst
  rw [← hbs]
  clear hst hbs hbr
  go_loopw [4] (fun i wr => ∃ x : Nat, x ≤ 24 ∧ i = .int .i64 x ∧ Own.St w.heap.size w wr [A64 br 76 (List.replicate 25 0), A64 bs 76 (perm x s)]) (fun i _ => 24 - (intOf i).toNat)
  case atStart =>
    have h : Own.St w.heap.size w W1 [A64 br 76 (List.replicate 25 0), A64 bs 76 (perm 0 s)] := by rw [show perm 0 s = s from rfl]; exact HST.out
    exact ⟨0, by omega, rfl, h⟩
  case round =>
    obtain ⟨x, hx24, rfl, H⟩ := hrel
    have H := Lib.hid H
    obtain ⟨ts, hts⟩ : ∃ t, t = perm x s := ⟨_, rfl⟩
    have HLT : Hid (ts.length = 25) := by rw [hts]; exact perm_len x s HSL.out
    rw [← hts] at H
    have ROW := Lib.hid (A64.row H.out 1 rfl)
    have INFO := Lib.hid (info_lanes ts HLT.out)
    by_cases hx : (x : Int) < 24
    · obtain ⟨rs, hrs⟩ : ∃ r, r = roundM (markOf (x : Int)) ts := ⟨_, rfl⟩
      have LR : Hid (rs.length = 25) := by rw [hrs]; exact roundM_len _ _
      have NEXT : Hid (rs = perm (x + 1) s) := by rw [hrs, hts]; exact perm_next x s
      have CALL : Hid (∀ wx, Tab wx → Calls Tryd.prog 55 #[.agg (ts.map u64V).toArray, .int .i64 x] wx fun e w' => e = .returned (.agg (rs.map u64V).toArray) ∧ Below wx.heap.size wx w') := by
        intro wx h
        rw [hrs]
        exact roundK_any ts HLT.out x (by omega) (by omega) wx h
      have INFO2 := Lib.hid (info_lanes rs LR.out)
      have ONE := Lib.hid (one_cells rs)
      clear hrs hts
      go_wp2_with (refine wpList_load_row rfl 76 (.tmp 1) rfl bs rfl 76 _ (0, 0) _ ROW.out Tryd.underlying76 rfl INFO.out ?_)
      refine (CALL.out wr (TAB.out.later H.out.below)).mono ?_
      rintro e wd ⟨rfl, hwd⟩
      have G := Lib.hid (H.out.later hwd)
      have ALL := Lib.hid (A64.setAll G.out 1 rfl rs (by rw [LR.out, HLT.out]))
      have THERE := Lib.hid (A64.there G.out 1 rfl rs (by rw [LR.out, HLT.out]))
      clear hwd
      go_wp2_with (refine wpList_store_mid rfl 76 (.tmp 1) (.tmp 9) rfl bs 0 (rs.map u64V).toArray rfl rfl THERE.out INFO2.out ONE.out ?_)
      go_roundw
      case rel =>
        refine ⟨x + 1, by omega, by go_num, ?_⟩
        rw [← NEXT.out]
        exact ALL.out
      case measure => simp [intOf]; omega
    · have hx : x = 24 := by omega
      have NOW : Hid (ts = perm 24 s) := by show ts = perm 24 s; rw [hts, hx]
      have LAST := Lib.hid (A64.setAll H.out 0 rfl ts (by rw [HLT.out]; rfl))
      have THERE := Lib.hid (A64.there H.out 0 rfl ts (by rw [HLT.out]; rfl))
      have ONE := Lib.hid (one_cells ts)
      have END := Lib.hid (A64.row LAST.out 0 rfl)
      clear hts hx
      go_wp2_with (first
        | (refine wpList_load_row rfl 76 (.tmp 1) rfl bs rfl 76 _ (0, 0) _ ROW.out Tryd.underlying76 rfl INFO.out ?_)
        | (refine wpList_store_mid rfl 76 (.tmp 2) (.tmp 11) rfl br 0 (ts.map u64V).toArray rfl rfl THERE.out INFO.out ONE.out ?_))
      refine bodyPost_ret (results_cell_row rfl _ _ br 76 _ (0, 0) _ rfl END.out Tryd.underlying76 rfl INFO.out) rfl ?_
      refine ⟨?_, LAST.out.below⟩
      rw [NOW.out]

end Kec
end Go.Proofs.YtllmogicmimjlaaDoor

end
section
namespace Go.SpoM
open Go.KecM

/-- a byte xored into the state at place i of 136 -/
def xorAt (s : St) (i : Nat) (c : UInt8) : St := s.set (i / 8) (s.getD (i / 8) 0 ^^^ (BitVec.ofNat 64 c.toNat <<< (8 * (i % 8))))
theorem xorAt_len (s : St) (i : Nat) (c : UInt8) : (xorAt s i c).length = s.length := by simp [xorAt]
/-- one byte taken in: the state, and how many bytes since it was permuted -/
def feed1 (q : St × Nat) (c : UInt8) : St × Nat := if q.2 = 135 then (perm 24 (xorAt q.1 135 c), 0) else (xorAt q.1 q.2 c, q.2 + 1)
def feed (q : St × Nat) (b : List UInt8) : St × Nat := b.foldl feed1 q
def zeroSt : St := List.replicate 25 0
/-- the state behind the padding -/
def fin (q : St × Nat) : St := perm 24 (xorAt (xorAt q.1 q.2 6) 135 128)
def byteOf (s : St) (i : Nat) : UInt8 := UInt8.ofNat ((s.getD (i / 8) 0).toNat / 2 ^ (8 * (i % 8)))
def squeeze (s : St) : List UInt8 := (List.range 32).map (byteOf s)
/-- THE FINGERPRINT -/
def sha (b : List UInt8) : List UInt8 := squeeze (fin (feed (zeroSt, 0) b))
theorem squeeze_len (s : St) : (squeeze s).length = 32 := by simp [squeeze]
theorem sha_len (b : List UInt8) : (sha b).length = 32 := squeeze_len _

theorem feed_append (q : St × Nat) (a b : List UInt8) : feed q (a ++ b) = feed (feed q a) b := List.foldl_append
theorem feed1_len (q : St × Nat) (c : UInt8) (h : q.1.length = 25) : (feed1 q c).1.length = 25 := by
  unfold feed1
  split
  · exact perm_len _ _ (by rw [xorAt_len]; exact h)
  · show (xorAt q.1 q.2 c).length = 25
    rw [xorAt_len]; exact h
theorem feed_len (b : List UInt8) : ∀ (q : St × Nat), q.1.length = 25 → (feed q b).1.length = 25 := by
  induction b with
  | nil => intro q h; exact h
  | cons c b ih => intro q h; exact ih _ (feed1_len q c h)
theorem feed_pos (b : List UInt8) : ∀ (q : St × Nat), q.2 < 136 → (feed q b).2 = (q.2 + b.length) % 136 ∧ (feed q b).2 < 136 := by
  induction b with
  | nil => intro q h; exact ⟨(Nat.mod_eq_of_lt h).symm, h⟩
  | cons c b ih =>
    intro q h
    have h1 : (feed1 q c).2 = (q.2 + 1) % 136 ∧ (feed1 q c).2 < 136 := by
      unfold feed1
      split
      · rename_i e; rw [e]; exact ⟨rfl, by show 0 < 136; omega⟩
      · show q.2 + 1 = (q.2 + 1) % 136 ∧ q.2 + 1 < 136
        exact ⟨(Nat.mod_eq_of_lt (by omega)).symm, by omega⟩
    have h2 := ih (feed1 q c) h1.2
    refine ⟨h2.1.trans ?_, h2.2⟩
    rw [h1.1, List.length_cons]
    omega
theorem take_succ' (l : List UInt8) (i : Nat) (h : i < l.length) : l.take (i + 1) = l.take i ++ [l.getD i 0] := by
  rw [List.take_succ_eq_append_getElem h]
  simp [h]
/-- the fingerprint's first i bytes -/
def sqTo (s : St) (i : Nat) : List UInt8 := (List.range 32).map fun j => if j < i then byteOf s j else 0
theorem sqTo_len (s : St) (i : Nat) : (sqTo s i).length = 32 := by simp [sqTo]
theorem sqTo_zero (s : St) : sqTo s 0 = List.replicate 32 0 := by
  apply List.ext_getElem
  · simp [sqTo]
  · intro j h1 h2
    simp only [sqTo, List.getElem_map, List.getElem_replicate, Nat.not_lt_zero, if_false]
theorem sqTo_all (s : St) : sqTo s 32 = squeeze s := by
  apply List.ext_getElem
  · simp [sqTo, squeeze]
  · intro j h1 h2
    have hj : j < 32 := by simpa [sqTo] using h1
    simp [sqTo, squeeze, hj]
theorem sqTo_set (s : St) (i : Nat) : (sqTo s i).set i (byteOf s i) = sqTo s (i + 1) := by
  apply List.ext_getElem
  · simp [sqTo]
  · intro j h1 h2
    by_cases hj : j = i
    · subst hj; simp [sqTo]
    · rw [List.getElem_set_ne (Ne.symm hj)]
      simp only [sqTo, List.getElem_map, List.getElem_range]
      by_cases h : j < i
      · rw [if_pos h, if_pos (by omega)]
      · rw [if_neg h, if_neg (by omega)]
end Go.SpoM

end
section
namespace Go.Proofs.YtllmogicmimjlaaDoor
open Go.RowKit Go.Own
namespace Spo
open Go.KecM Go.SpoM Byt
open Kec (A64 u64V info_lanes one_cells)

theorem quo_eight {o : Oper} {t : Tmp} (ho : o.op = .binOp .quo 3 (.tmp t) (.const (.int .i64 8)) 3) (k : Nat) (hk : k ≤ 1000) {q : Nat} (hq : q = k / 8) : ∀ (ρ : Operand → Value) w, ρ (.tmp t) = .int .i64 (k : Int) → (∀ c, ρ (.const c) = c) → (execOp ρ o).run Tryd.prog w = .ok (.value (.int .i64 (q : Int))) w := by
  intro ρ w h0 hc
  have e1 : (k : Int).tdiv 8 = (q : Int) := by rw [Int.tdiv_eq_ediv_of_nonneg (by omega)]; omega
  have e : IntKind.i64.wrap (q : Int) = (q : Int) := IntWalk.i64_in _ (by omega)
  simp only [execOp, ho, h0, hc]
  generalize (k : Int) = m at e1
  simp [go_sem, e1, e]
theorem rem_eight {o : Oper} {t : Tmp} (ho : o.op = .binOp .rem 3 (.tmp t) (.const (.int .i64 8)) 3) (k : Nat) (hk : k ≤ 1000) {q : Nat} (hq : q = k % 8) : ∀ (ρ : Operand → Value) w, ρ (.tmp t) = .int .i64 (k : Int) → (∀ c, ρ (.const c) = c) → (execOp ρ o).run Tryd.prog w = .ok (.value (.int .i64 (q : Int))) w := by
  intro ρ w h0 hc
  have e1 : (k : Int).tmod 8 = (q : Int) := by rw [Int.tmod_eq_emod_of_nonneg (by omega)]; omega
  have e : IntKind.i64.wrap (q : Int) = (q : Int) := IntWalk.i64_in _ (by omega)
  simp only [execOp, ho, h0, hc]
  generalize (k : Int) = m at e1
  simp [go_sem, e1]
theorem mul_eight {o : Oper} {t : Tmp} (ho : o.op = .binOp .mul 3 (.const (.int .i64 8)) (.tmp t) 3) (k : Nat) (hk : k < 8) {q : Nat} (hq : q = 8 * k) : ∀ (ρ : Operand → Value) w, ρ (.tmp t) = .int .i64 (k : Int) → (∀ c, ρ (.const c) = c) → (execOp ρ o).run Tryd.prog w = .ok (.value (.int .i64 (q : Int))) w := by
  intro ρ w h0 hc
  have e : IntKind.i64.wrap (8 * (k : Int)) = (q : Int) := (IntWalk.i64_in _ (by omega)).trans (by omega)
  simp only [execOp, ho, h0, hc]
  generalize (k : Int) = m at e
  simp [go_sem, e]
theorem conv_8_64 {o : Oper} {x : Tmp} (ho : o.op = .convert 5 24 (.tmp x)) (c : UInt8) {z : W} (hz : z = BitVec.ofNat 64 c.toNat) (ρ : Operand → Value) (w : World) (h0 : ρ (.tmp x) = .int .u8 (c.toNat : Int)) : (execOp ρ o).run Tryd.prog w = .ok (.value (.int .u64 (z.toNat : Int))) w := by
  have hc : c.toNat < 256 := c.toNat_lt
  have e : IntKind.u64.wrap (c.toNat : Int) = (z.toNat : Int) := by rw [Kec.wrap_u64', hz, BitVec.toNat_ofNat]; omega
  simp only [execOp, ho, h0]
  generalize (c.toNat : Int) = m at e
  simp [go_sem, e]
theorem shl64 {o : Oper} {x y : Tmp} (ho : o.op = .binOp .shl 24 (.tmp x) (.tmp y) 3) (z : W) (e : Nat) (he : e < 64) {u : W} (hu : u = z <<< e) (ρ : Operand → Value) (w : World) (h0 : ρ (.tmp x) = .int .u64 (z.toNat : Int)) (h1 : ρ (.tmp y) = .int .i64 (e : Int)) : (execOp ρ o).run Tryd.prog w = .ok (.value (.int .u64 (u.toNat : Int))) w := by
  have e2 : IntKind.u64.wrap ((z.toNat : Int) * 2 ^ e) = (u.toNat : Int) := by
    rw [Kec.wrap_u64', hu, BitVec.toNat_shiftLeft, Nat.shiftLeft_eq]
    simp
  have h2 : ¬ (e : Int) < 0 := by omega
  have h3 : e < 64 := he
  simp only [execOp, ho, h0, h1]
  simp [go_sem, e2]

end Spo
end Go.Proofs.YtllmogicmimjlaaDoor

end
section
namespace Go.Proofs.YtllmogicmimjlaaDoor
open Go.RowKit Go.Own
namespace Spo
open Go.KecM Go.SpoM Byt
open Kec (A64 u64V info_lanes one_cells)

set_option maxHeartbeats 800000 in
theorem mixK_any (b i : Nat) (hi : i < 136) (c : UInt8) {z1 z4 : KecM.W} (hz : z4 = z1 ^^^ (BitVec.ofNat 64 c.toNat <<< (8 * (i % 8)))) (k : Nat) (hk : k = i / 8) (w : World) (hc : w.cell? ⟨b, k, none⟩ = some (.int .u64 (z1.toNat : Int))) (hf : w.frozen? ⟨b, k, none⟩ = false) :
    Calls Tryd.prog 37 #[.pointer (some ⟨b, 0, none⟩), .int .i64 i, .int .u8 c.toNat] w fun e w' => e = .returned (.tuple #[]) ∧ ∃ wd, Below w.heap.size w wd ∧ w' = wd.setCell ⟨b, k, none⟩ (.int .u64 (z4.toNat : Int)) := by
  obtain ⟨r, hr⟩ : ∃ r, r = i % 8 := ⟨_, rfl⟩
  obtain ⟨e, he⟩ : ∃ e, e = 8 * r := ⟨_, rfl⟩
  have hk25 : k < 25 := by omega
  have hr8 : r < 8 := by omega
  have he64 : e < 64 := by omega
  have hi1000 : i ≤ 1000 := by omega
  obtain ⟨z2, hz2⟩ : ∃ z, z = BitVec.ofNat 64 c.toNat := ⟨_, rfl⟩
  obtain ⟨z3, hz3⟩ : ∃ z, z = z2 <<< e := ⟨_, rfl⟩
  have HZ2 := Lib.hid hz2
  have HZ3 := Lib.hid hz3
  have HX4 : Hid (bits .xor .u64 (z1.toNat : Int) (z3.toNat : Int) = (z4.toNat : Int)) := by
    show bits .xor .u64 (z1.toNat : Int) (z3.toNat : Int) = (z4.toNat : Int)
    rw [u64_xor_nat _ _ z1.isLt z3.isLt, hz, ← hr, ← he, ← hz2, ← hz3, BitVec.toNat_xor]
  have HC1 : Hid (∀ wx, Below w.heap.size w wx → wx.cell? ⟨b, k, none⟩ = some (.int .u64 (z1.toNat : Int))) := fun wx hwx => Kec.cell_later hc hwx
  have HF1 : Hid (∀ wx, Below w.heap.size w wx → wx.frozen? ⟨b, k, none⟩ = false) := fun wx hwx => (hwx.frozen (p := ⟨b, k, none⟩) (World.block_lt_of_cell? w _ hc)).trans hf
  have HK := Lib.hid hk
  have HR := Lib.hid hr
  have HE := Lib.hid he
  clear hz hk hr he hz2 hz3 hc hf
  go_enter Tryd.func37, Tryd.ntmps37
  go_wp2_with (fail)
  refine wp_laxW_list 15 (by kernel_rfl) (by kernel_rfl) (by kernel_rfl) (by kernel_rfl) (by kernel_rfl) ?_
  simp only [List.take_succ_cons, List.take_zero, List.drop_succ_cons, List.drop_zero]
  refine wpL_move (.pointer (some ⟨b, 0, none⟩)) rfl (by kernel_rfl) (by kernel_rfl) (by kernel_rfl) (by kernel_rfl) ?_
  refine wpL_move (.int .i64 (i : Int)) rfl (by kernel_rfl) (by kernel_rfl) (by kernel_rfl) (by kernel_rfl) ?_
  refine wpL_run1 (x := .tmp 7) (.int .i64 (i : Int)) (.int .i64 (k : Int)) (by kernel_rfl) (by kernel_rfl) (by kernel_rfl) (by kernel_rfl) (by kernel_rfl) (fun wx ρ hwx h0 hc => quo_eight rfl i hi1000 HK.out ρ wx h0 hc) ?_
  refine wpL_run1 (x := .tmp 6) (.pointer (some ⟨b, 0, none⟩)) (.pointer (some ⟨b, 0, none⟩)) (by kernel_rfl) (by kernel_rfl) (by kernel_rfl) (by kernel_rfl) (by kernel_rfl) (fun wx ρ hwx h0 hc => by simp [go_sem, h0]) ?_
  refine wpL_run2 (x := .tmp 9) (y := .tmp 8) (.pointer (some ⟨b, 0, none⟩)) (.int .i64 (k : Int)) (.pointer (some ⟨b, k, none⟩)) (by kernel_rfl) (by kernel_rfl) (by kernel_rfl) (by kernel_rfl) (by kernel_rfl) (by kernel_rfl) (fun wx ρ hwx h0 h1 hc => Kec.idx25 rfl k hk25 b ρ wx h0 h1) ?_
  refine wpL_run1 (x := .tmp 10) (.pointer (some ⟨b, k, none⟩)) (.int .u64 z1.toNat) (by kernel_rfl) (by kernel_rfl) (by kernel_rfl) (by kernel_rfl) (by kernel_rfl) (fun wx ρ hwx h0 hc => Kec.load64 rfl ρ (HC1.out wx hwx) h0) ?_
  refine wpL_move (.int .u8 (c.toNat : Int)) rfl (by kernel_rfl) (by kernel_rfl) (by kernel_rfl) (by kernel_rfl) ?_
  refine wpL_run1 (x := .tmp 12) (.int .u8 (c.toNat : Int)) (.int .u64 (z2.toNat : Int)) (by kernel_rfl) (by kernel_rfl) (by kernel_rfl) (by kernel_rfl) (by kernel_rfl) (fun wx ρ hwx h0 hc => conv_8_64 rfl c HZ2.out ρ wx h0) ?_
  refine wpL_move (.int .i64 (i : Int)) rfl (by kernel_rfl) (by kernel_rfl) (by kernel_rfl) (by kernel_rfl) ?_
  refine wpL_run1 (x := .tmp 14) (.int .i64 (i : Int)) (.int .i64 (r : Int)) (by kernel_rfl) (by kernel_rfl) (by kernel_rfl) (by kernel_rfl) (by kernel_rfl) (fun wx ρ hwx h0 hc => rem_eight rfl i hi1000 HR.out ρ wx h0 hc) ?_
  refine wpL_run1 (x := .tmp 15) (.int .i64 (r : Int)) (.int .i64 (e : Int)) (by kernel_rfl) (by kernel_rfl) (by kernel_rfl) (by kernel_rfl) (by kernel_rfl) (fun wx ρ hwx h0 hc => mul_eight rfl r hr8 HE.out ρ wx h0 hc) ?_
  refine wpL_run2 (x := .tmp 13) (y := .tmp 16) (.int .u64 (z2.toNat : Int)) (.int .i64 (e : Int)) (.int .u64 (z3.toNat : Int)) (by kernel_rfl) (by kernel_rfl) (by kernel_rfl) (by kernel_rfl) (by kernel_rfl) (by kernel_rfl) (fun wx ρ hwx h0 h1 hc => shl64 rfl z2 e he64 HZ3.out ρ wx h0 h1) ?_
  refine wpL_run2 (x := .tmp 11) (y := .tmp 17) (.int .u64 z1.toNat) (.int .u64 (z3.toNat : Int)) (.int .u64 (z4.toNat : Int)) (by kernel_rfl) (by kernel_rfl) (by kernel_rfl) (by kernel_rfl) (by kernel_rfl) (by kernel_rfl) (fun wx ρ hwx h0 h1 hc => by simp [h0, h1, go_sem, HX4.out]) ?_
  refine wpL_run1 (x := .tmp 6) (.pointer (some ⟨b, 0, none⟩)) (.pointer (some ⟨b, 0, none⟩)) (by kernel_rfl) (by kernel_rfl) (by kernel_rfl) (by kernel_rfl) (by kernel_rfl) (fun wx ρ hwx h0 hc => by simp [go_sem, h0]) ?_
  refine wpL_run2 (x := .tmp 19) (y := .tmp 8) (.pointer (some ⟨b, 0, none⟩)) (.int .i64 (k : Int)) (.pointer (some ⟨b, k, none⟩)) (by kernel_rfl) (by kernel_rfl) (by kernel_rfl) (by kernel_rfl) (by kernel_rfl) (by kernel_rfl) (fun wx ρ hwx h0 h1 hc => Kec.idx25 rfl k hk25 b ρ wx h0 h1) ?_
  refine wpL_end (by kernel_rfl) (fun wd hwd => ?_)
  simp only [FinL, setL, List.set_cons_zero, List.set_cons_succ]
  intro _
  have cp := HC1.out wd hwd
  have fp := HF1.out wd hwd
  have HWD := Lib.hid hwd
  clear hwd HC1 HF1 HX4 HZ2 HZ3
  go_wp2
  go_end0
  exact ⟨rfl, wd, HWD.out, rfl⟩

set_option maxHeartbeats 800000 in
theorem frontK_any (s : KecM.St) (hs : s.length = 25) (w : World) : Calls Tryd.prog 39 #[.agg (s.map u64V).toArray] w fun e w' => e = .returned (.agg ((squeeze s).map byteV).toArray) ∧ Below w.heap.size w w' := by
  have SL := Lib.hid hs
  clear hs
  go_enter Tryd.func39, Tryd.ntmps39
  go_wp2
  have hst := A8.box (A8.box (A64.box (Own.St.start w) 76 s) 29 (List.replicate 32 0)) 29 (List.replicate 32 0)
  simp only [size_alloc'] at hst
  change Code.wp _ _ _ _ (((w.alloc (.cells (s.map u64V).toArray 76)).alloc (.cells ((List.replicate 32 (0 : UInt8)).map byteV).toArray 29)).alloc (.cells ((List.replicate 32 (0 : UInt8)).map byteV).toArray 29))
  generalize ((w.alloc (.cells (s.map u64V).toArray 76)).alloc (.cells ((List.replicate 32 (0 : UInt8)).map byteV).toArray 29)).alloc (.cells ((List.replicate 32 (0 : UInt8)).map byteV).toArray 29) = W1 at hst ⊢
  obtain ⟨bs, hbs⟩ : ∃ b, b = w.heap.size := ⟨_, rfl⟩
  obtain ⟨br, hbr⟩ : ∃ b, b = w.heap.size + 1 := ⟨_, rfl⟩
  obtain ⟨bd, hbd⟩ : ∃ b, b = w.heap.size + 1 + 1 := ⟨_, rfl⟩
  rw [← hbd, ← hbr] at hst ⊢
  have HD : Hid (Own.St w.heap.size w W1 [A8 bd 29 (sqTo s 0), A8 br 29 (List.replicate 32 0), A64 bs 76 s]) := by rw [hbs, sqTo_zero]; exact hst
  rw [← hbs]
  clear hst hbs hbr hbd
  go_loopw [5] (fun v wr => ∃ i : Nat, i ≤ 32 ∧ v = .int .i64 (i : Int) ∧ Own.St w.heap.size w wr [A8 bd 29 (sqTo s i), A8 br 29 (List.replicate 32 0), A64 bs 76 s]) (fun v _ => 32 - (intOf v).toNat)
  case atStart => exact ⟨0, Nat.zero_le _, rfl, HD.out⟩
  case round =>
    obtain ⟨i, hi32, rfl, G⟩ := hrel
    have G := Lib.hid G
    clear HD
    by_cases hi : (i : Int) < 32
    · have hin : i < 32 := by omega
      obtain ⟨q, hq⟩ : ∃ q, q = i / 8 := ⟨_, rfl⟩
      obtain ⟨r, hr⟩ : ∃ r, r = i % 8 := ⟨_, rfl⟩
      obtain ⟨e, he⟩ : ∃ e, e = 8 * r := ⟨_, rfl⟩
      have hqi : (i : Int) / 8 = (q : Int) := by omega
      have hri : (i : Int) % 8 = (r : Int) := by omega
      have hei : 8 * (r : Int) = (e : Int) := by omega
      have hq25 : (q : Int) < 25 := by omega
      have hr8 : r < 8 := by omega
      have he64 : e < 64 := by omega
      obtain ⟨z1, hz1⟩ : ∃ z, z = s.getD q 0 := ⟨_, rfl⟩
      obtain ⟨c, hc⟩ : ∃ c, c = SpoM.byteOf s i := ⟨_, rfl⟩
      have hz1b : z1.toNat < 18446744073709551616 := z1.isLt
      have hcv : ((z1.toNat : Int) / 2 ^ e) % 256 = (c.toNat : Int) := by
        rw [hc]
        unfold SpoM.byteOf
        rw [← hq, ← hr, ← he, ← hz1]
        simp
      have cz := (A64.cell G.out 2 rfl q (by rw [SL.out]; omega) hz1.symm).1
      obtain ⟨cd, fd⟩ := A8.cell G.out 0 rfl i (by rw [sqTo_len]; exact hin)
      have PUT : Hid (Own.St w.heap.size w (wr.setCell ⟨bd, i, none⟩ (.int .u8 (c.toNat : Int))) [A8 bd 29 (sqTo s (i + 1)), A8 br 29 (List.replicate 32 0), A64 bs 76 s]) := by
        have h := A8.store G.out 0 rfl i c
        rw [hc, sqTo_set] at h
        rw [hc]
        exact h
      clear hq hr he hz1 hc G
      go_wp2
      go_roundw
      case rel => exact ⟨i + 1, by omega, by go_num, PUT.out⟩
      case measure => simp [intOf]; omega
    · obtain ⟨rs, hrs⟩ : ∃ r, r = squeeze s := ⟨_, rfl⟩
      have LR : Hid (rs.length = 32) := by rw [hrs]; exact squeeze_len _
      have H5 : Hid (Own.St w.heap.size w wr [A8 bd 29 rs, A8 br 29 (List.replicate 32 0), A64 bs 76 s]) := by
        have h := G.out
        rw [show i = 32 by omega, sqTo_all, ← hrs] at h
        exact h
      have HRS := Lib.hid hrs
      clear hrs G hi32
      have LAST := Lib.hid (A8.setAll H5.out 1 rfl rs (by rw [LR.out]; rfl))
      have ROW := Lib.hid (A8.row H5.out 0 rfl)
      have THERE := Lib.hid (A8.there H5.out 1 rfl rs (by rw [LR.out]; rfl))
      have INFO2 := Lib.hid (info_sum rs LR.out)
      have ONE := Lib.hid (one8 rs)
      go_wp2_with (first
        | (refine wpList_load_row rfl 29 (.tmp 3) rfl bd rfl 29 _ (0, 0) _ ROW.out Tryd.underlying29 rfl INFO2.out ?_)
        | (refine wpList_store_mid rfl 29 (.tmp 2) (.tmp 20) rfl br 0 (rs.map byteV).toArray rfl rfl THERE.out INFO2.out ONE.out ?_))
      have END := Lib.hid (A8.row LAST.out 1 rfl)
      refine bodyPost_ret (results_cell_row rfl _ _ br 29 _ (0, 0) _ rfl END.out Tryd.underlying29 rfl INFO2.out) rfl ?_
      refine ⟨?_, LAST.out.below⟩
      rw [HRS.out]
end Spo
end Go.Proofs.YtllmogicmimjlaaDoor

end
section
namespace Go.Own
open Go.RowKit
/-- a block's middle is overwritten -/
theorem block_setCells {b : Nat} {t : TypeId} : ∀ (r pre mid post : List Value) (w : World), w.heap[b]? = some (.cells (pre ++ mid ++ post).toArray t (0, 0)) → mid.length = r.length →
    (w.setCells b pre.length r).heap[b]? = some (.cells (pre ++ r ++ post).toArray t (0, 0)) ∧ Step (fun k => k = b) (fun k => k = b) w (w.setCells b pre.length r)
  | [], pre, mid, post, w, hb, hl => by
    obtain rfl : mid = [] := List.eq_nil_of_length_eq_zero (by simpa using hl)
    exact ⟨hb, Step.refl _ _⟩
  | v :: r, pre, [], post, w, hb, hl => by simp at hl
  | v :: r, pre, m :: mid, post, w, hb, hl => by
    have h1 : (w.setCell ⟨b, pre.length, none⟩ v).heap[b]? = some (.cells ((pre ++ [v]) ++ mid ++ post).toArray t (0, 0)) := by
      rw [block_setCell hb]
      congr 2
      apply Array.ext'
      simp
    have h2 := block_setCells r (pre ++ [v]) mid post _ h1 (by simpa using hl)
    rw [List.length_append] at h2
    have e : pre ++ v :: r ++ post = (pre ++ [v]) ++ r ++ post := by simp
    rw [e]
    exact ⟨h2.1, ((Step.refl (fun k => k = b) w).setCell (a := ⟨b, pre.length, none⟩) (Or.inl rfl) v).trans h2.2⟩
end Go.Own
namespace Go.Proofs.YtllmogicmimjlaaDoor
open Go.RowKit Go.Own
namespace Spo
open Go.KecM Go.SpoM Byt
open Kec (A64 u64V info_lanes one_cells)

/-- a State: its words, and how many bytes they took in -/
def stVs (q : KecM.St × Nat) : List Value := q.1.map u64V ++ [.int .i64 (q.2 : Int)]
def AStt (p : Nat) (q : KecM.St × Nat) : Asn := AVals p 78 (stVs q)
section
variable {p : Nat} {q : KecM.St × Nat} {S : Nat → Prop} {w : World}
theorem stt_block (h : (AStt p q).holds S w) : w.heap[p]? = some (.cells (stVs q).toArray 78 (0, 0)) := h.1
theorem stt_set (h : (AStt p q).holds S w) : ∀ k, S k ↔ k = p := h.2
theorem stt_word (h : (AStt p q).holds S w) (hl : q.1.length = 25) (k : Nat) (hk : k < 25) {v : KecM.W} (hv : q.1.getD k 0 = v) : w.cell? ⟨p, k, none⟩ = some (.int .u64 (v.toNat : Int)) ∧ w.frozen? ⟨p, k, none⟩ = false := by
  refine ⟨cell_of_block (stt_block h) ?_, frozen_of_block (stt_block h)⟩
  have hk2 : k < q.1.length := by omega
  simp [stVs, List.getElem?_append_left, hk2, u64V, ← hv]
theorem stt_at (h : (AStt p q).holds S w) (hl : q.1.length = 25) : w.cell? ⟨p, 25, none⟩ = some (.int .i64 (q.2 : Int)) ∧ w.frozen? ⟨p, 25, none⟩ = false := by
  refine ⟨cell_of_block (stt_block h) ?_, frozen_of_block (stt_block h)⟩
  simp [stVs, hl]
theorem stt_setWord (h : (AStt p q).holds S w) (hl : q.1.length = 25) (k : Nat) (hk : k < 25) (v : KecM.W) :
    (AStt p (q.1.set k v, q.2)).holds S (w.setCell ⟨p, k, none⟩ (.int .u64 (v.toNat : Int))) ∧ Step S S w (w.setCell ⟨p, k, none⟩ (.int .u64 (v.toNat : Int))) := by
  refine ⟨⟨?_, h.2⟩, (Step.refl S w).setCell (a := ⟨p, k, none⟩) (Or.inl ((h.2 p).2 rfl)) _⟩
  rw [block_setCell (stt_block h)]
  congr 2
  apply Array.ext'
  have hk2 : k < q.1.length := by omega
  simp [stVs, hk2, List.map_set, u64V]
theorem stt_setAt (h : (AStt p q).holds S w) (hl : q.1.length = 25) (n : Nat) :
    (AStt p (q.1, n)).holds S (w.setCell ⟨p, 25, none⟩ (.int .i64 (n : Int))) ∧ Step S S w (w.setCell ⟨p, 25, none⟩ (.int .i64 (n : Int))) := by
  refine ⟨⟨?_, h.2⟩, (Step.refl S w).setCell (a := ⟨p, 25, none⟩) (Or.inl ((h.2 p).2 rfl)) _⟩
  rw [block_setCell (stt_block h)]
  congr 2
  apply Array.ext'
  simp [stVs, hl]
theorem stt_setAll (h : (AStt p q).holds S w) (hl : q.1.length = 25) (rs : List KecM.W) (hr : rs.length = 25) :
    (AStt p (rs, q.2)).holds S (w.setCells p 0 (rs.map u64V).toArray.toList) ∧ Step S S w (w.setCells p 0 (rs.map u64V).toArray.toList) := by
  have h1 := block_setCells (b := p) (rs.map u64V) [] (q.1.map u64V) [.int .i64 (q.2 : Int)] w (by simpa [stVs] using stt_block h) (by simp [hl, hr])
  have e : S = fun k => k = p := funext fun k => propext (h.2 k)
  rw [e]
  exact ⟨⟨by simpa [stVs] using h1.1, fun _ => Iff.rfl⟩, h1.2⟩
theorem stt_range (h : (AStt p q).holds S w) (hl : q.1.length = 25) : w.rangeAt p 0 (q.1.map u64V) := fun j v hv => by
  have hj := (List.getElem?_eq_some_iff.1 hv).1
  rw [List.length_map] at hj
  rw [Nat.zero_add]
  refine cell_of_block (stt_block h) ?_
  rw [List.getElem?_toArray, stVs, List.getElem?_append_left (by simpa using hj)]
  exact hv
theorem stt_there (h : (AStt p q).holds S w) (hl : q.1.length = 25) (rs : List KecM.W) (hr : rs.length = 25) : w.there p 0 (rs.map u64V).toArray.size := fun j hj => by
  have hj2 : j < 25 := by simpa [hr] using hj
  obtain ⟨h1, h2⟩ := stt_word h hl j hj2 rfl
  rw [Nat.zero_add]
  exact ⟨by rw [h1]; rfl, h2⟩
end
theorem stt_later {p : Nat} {q : KecM.St × Nat} {S : Nat → Prop} {w w' : World} (h : (AStt p q).holds S w) (g : Below w.heap.size w w') : (AStt p q).holds S w' ∧ Step S S w w' :=
  ⟨⟨(g.block _ (lt_of_block (stt_block h))).trans (stt_block h), h.2⟩, ⟨g.os, g.tape, g.output, g.size, fun k hk _ => g.block k hk, fun _ h => .inl h⟩⟩

/-- New -/
theorem newK_any (w : World) : Calls Tryd.prog 15 #[] w fun e w' => ∃ p S, e = .returned (.pointer (some ⟨p, 0, none⟩)) ∧ (AStt p (zeroSt, 0)).holds S w' ∧ Step (fun _ => False) S w w' := by
  have HN : Hid (∃ S, (AStt w.heap.size (zeroSt, 0)).holds S (w.alloc (.cells (stVs (zeroSt, 0)).toArray 78)) ∧ Step (fun _ => False) S w (w.alloc (.cells (stVs (zeroSt, 0)).toArray 78))) :=
    ⟨fun k => k = w.heap.size, ⟨heap_alloc_new w _, fun _ => Iff.rfl⟩, ((Step.refl (fun _ => False) w).alloc _).to (fun k hk => .inr (Nat.le_of_eq hk.symm))⟩
  go_enter Tryd.func15, Tryd.ntmps15
  go_wp2
  go_ret
  obtain ⟨S, h1, h2⟩ := HN.out
  exact ⟨w.heap.size, S, rfl, h1, h2⟩
end Spo
end Go.Proofs.YtllmogicmimjlaaDoor

end
section
namespace Go.Proofs.YtllmogicmimjlaaDoor
open Go.RowKit Go.Own
namespace Spo
open Go.KecM Go.SpoM Byt
open Kec (A64 u64V info_lanes one_cells)

theorem writeNil_any (v : Value) (w : World) : Calls Tryd.prog 16 #[.pointer none, v] w fun e w' => e = .returned (.tuple #[]) ∧ Below w.heap.size w w' := by
  go_enter Tryd.func16, Tryd.ntmps16
  go_wp2
  refine bodyPost_ret (results_none rfl _ _ _) rfl ?_
  exact ⟨rfl, Below.refl _ _⟩

theorem feed_next (q : KecM.St × Nat) (x : List UInt8) (j : Nat) (h : j < x.length) : feed q (x.take (j + 1)) = feed1 (feed q (x.take j)) (x.getD j 0) := by
  rw [take_succ' x j h, feed_append]; rfl
theorem feed1_full {s : KecM.St} {a : Nat} (h : a = 135) (c : UInt8) : feed1 (s, a) c = (perm 24 (xorAt s a c), 0) := by subst h; rfl
theorem feed1_part {s : KecM.St} {a : Nat} (h : a ≠ 135) (c : UInt8) : feed1 (s, a) c = (xorAt s a c, a + 1) := by unfold feed1; rw [if_neg h]

set_option maxHeartbeats 2000000 in
theorem writeK_any (W : World) (T : Kec.Tab W) (S D : Nat → Prop) (p : Nat) (q : KecM.St × Nat) (ao : Option Addr) (x : List UInt8) (n cap : Nat) (w : World) (hW : Below W.heap.size W w) (hpW : W.heap.size ≤ p) (hS : (AStt p q).holds S w) (hq : q.1.length = 25) (hp : q.2 < 136)
    (hV : View w D ao x) (hd : Dis D S) (hn : x.length = n) (hl : n ≤ 10000000) :
    Calls Tryd.prog 16 #[.pointer (some ⟨p, 0, none⟩), .slice ao n cap] w fun e w' => e = .returned (.tuple #[]) ∧ (AStt p (feed q x)).holds S w' ∧ Step S S w w' := by
  have HN := Lib.hid hn
  have HS := Lib.hid hS
  have HV := Lib.hid hV
  have HD := Lib.hid hd
  have HQ := Lib.hid hq
  have HP := Lib.hid hp
  have TAB : Hid (∀ wx, Step S S w wx → Kec.Tab wx) := fun wx hwx => T.later (hW.trans (hwx.below hW.size (fun k hk => by rw [(stt_set hS k).1 hk]; exact hpW)))
  clear hW hpW hS hq hp hV hd hn T
  go_enter Tryd.func16, Tryd.ntmps16
  go_wp2
  go_loopw [10] (fun v wr => ∃ j : Nat, j ≤ n ∧ v = .int .i64 (j : Int) ∧ (AStt p (feed q (x.take j))).holds S wr ∧ Step S S w wr) (fun v _ => n - (intOf v).toNat)
  case atStart => exact ⟨0, Nat.zero_le _, rfl, HS.out, Step.refl _ _⟩
  case round =>
    obtain ⟨j, hj, rfl, G, hst⟩ := hrel
    have G := Lib.hid G
    have HST := Lib.hid hst
    clear HS hst
    by_cases hjn : (j : Int) < (n : Int)
    · have hjl : j < x.length := by rw [HN.out]; omega
      obtain ⟨b, o, rfl, _, _, hcell⟩ := vat (HV.out.step HST.out HD.out) hjl
      obtain ⟨c, hc⟩ : ∃ c, c = x.getD j 0 := ⟨_, rfl⟩
      rw [← hc] at hcell
      obtain ⟨s1, hs1⟩ : ∃ s, s = (feed q (x.take j)).1 := ⟨_, rfl⟩
      obtain ⟨a1, ha1⟩ : ∃ a, a = (feed q (x.take j)).2 := ⟨_, rfl⟩
      have hqe : feed q (x.take j) = (s1, a1) := by rw [hs1, ha1]
      have L1 : Hid (s1.length = 25) := by show s1.length = 25; rw [hs1]; exact feed_len _ _ HQ.out
      have ha : a1 < 136 := by rw [ha1]; exact (feed_pos _ _ HP.out).2
      have HNEXT : Hid (feed q (x.take (j + 1)) = feed1 (s1, a1) c) := by
        show feed q (x.take (j + 1)) = feed1 (s1, a1) c
        rw [feed_next q x j hjl, hqe, ← hc]
      rw [hqe] at G
      obtain ⟨k, hk⟩ : ∃ k, k = a1 / 8 := ⟨_, rfl⟩
      have hk25 : k < 25 := by omega
      obtain ⟨z1, hz1⟩ : ∃ z, z = s1.getD k 0 := ⟨_, rfl⟩
      obtain ⟨z4, hz4⟩ : ∃ z, z = z1 ^^^ (BitVec.ofNat 64 c.toNat <<< (8 * (a1 % 8))) := ⟨_, rfl⟩
      obtain ⟨s2, hs2⟩ : ∃ s, s = s1.set k z4 := ⟨_, rfl⟩
      have HS2 : Hid (xorAt s1 a1 c = s2) := by
        show xorAt s1 a1 c = s2
        rw [hs2, hz4, hz1, hk]; rfl
      have L2 : Hid (s2.length = 25) := by show s2.length = 25; rw [hs2, List.length_set]; exact L1.out
      have HAT : Hid (∀ wx, Below wr.heap.size wr wx → wx.cell? ⟨p, 25, none⟩ = some (.int .i64 (a1 : Int))) := fun wx hwx => (stt_at (stt_later G.out hwx).1 L1.out).1
      have CMIX : Hid (∀ wx, Below wr.heap.size wr wx → Calls Tryd.prog 37 #[.pointer (some ⟨p, 0, none⟩), .int .i64 a1, .int .u8 c.toNat] wx fun e w' => e = .returned (.tuple #[]) ∧ (AStt p (s2, a1)).holds S w' ∧ Step S S wr w') := by
        intro wx hwx
        have g := stt_later G.out hwx
        obtain ⟨h1, h2⟩ := stt_word g.1 L1.out k hk25 hz1.symm
        refine (mixK_any p a1 ha c hz4 k hk wx h1 h2).mono ?_
        rintro e w' ⟨he, wd, hwd, rfl⟩
        have g2 := stt_later g.1 hwd
        have g3 := stt_setWord g2.1 L1.out k hk25 z4
        rw [hs2]
        exact ⟨he, g3.1, g.2.trans (g2.2.trans g3.2)⟩
      have HPR : Hid (AStt p (s1, a1) = AStt p (s1, a1)) := rfl
      clear hqe hs1 ha1 hk hz1 hz4 hs2 hc
      go_wp2_with (fail)
      refine wp_laxW_list 8 (by kernel_rfl) (by kernel_rfl) (by kernel_rfl) (by kernel_rfl) (by kernel_rfl) ?_
      simp only [List.take_succ_cons, List.take_zero, List.drop_succ_cons, List.drop_zero]
      refine wpL_move (.pointer (some ⟨p, 0, none⟩)) rfl (by kernel_rfl) (by kernel_rfl) (by kernel_rfl) (by kernel_rfl) ?_
      refine wpL_run1 (x := .tmp 14) (.pointer (some ⟨p, 0, none⟩)) (.pointer (some ⟨p, 0, none⟩)) (by kernel_rfl) (by kernel_rfl) (by kernel_rfl) (by kernel_rfl) (by kernel_rfl) (fun wx ρ hwx h0 hc => by simp [go_sem, h0]) ?_
      refine wpL_run1 (x := .tmp 15) (.pointer (some ⟨p, 0, none⟩)) (.pointer (some ⟨p, 0, none⟩)) (by kernel_rfl) (by kernel_rfl) (by kernel_rfl) (by kernel_rfl) (by kernel_rfl) (fun wx ρ hwx h0 hc => by simp [go_sem, h0]) ?_
      refine wpL_move (.pointer (some ⟨p, 0, none⟩)) rfl (by kernel_rfl) (by kernel_rfl) (by kernel_rfl) (by kernel_rfl) ?_
      refine wpL_run1 (x := .tmp 17) (.pointer (some ⟨p, 0, none⟩)) (.pointer (some ⟨p, 0, none⟩)) (by kernel_rfl) (by kernel_rfl) (by kernel_rfl) (by kernel_rfl) (by kernel_rfl) (fun wx ρ hwx h0 hc => by simp [go_sem, h0]) ?_
      refine wpL_run1 (x := .tmp 18) (.pointer (some ⟨p, 0, none⟩)) (.pointer (some ⟨p, 25, none⟩)) (by kernel_rfl) (by kernel_rfl) (by kernel_rfl) (by kernel_rfl) (by kernel_rfl) (fun wx ρ hwx h0 hc => by simp [go_sem, h0]) ?_
      refine wpL_run1 (x := .tmp 19) (.pointer (some ⟨p, 25, none⟩)) (.int .i64 (a1 : Int)) (by kernel_rfl) (by kernel_rfl) (by kernel_rfl) (by kernel_rfl) (by kernel_rfl) (fun wx ρ hwx h0 hc => by simp [go_sem, h0, HAT.out wx hwx]) ?_
      refine wpL_move (.int .u8 (c.toNat : Int)) rfl (by kernel_rfl) (by kernel_rfl) (by kernel_rfl) (by kernel_rfl) ?_
      refine wpL_end (by kernel_rfl) (fun wd hwd => ?_)
      simp only [FinL, setL, List.set_cons_zero, List.set_cons_succ]
      intro _
      have HWD := Lib.hid hwd
      clear hwd
      go_wp2_with (fail)
      refine (CMIX.out wd HWD.out).mono ?_
      rintro e w2 ⟨rfl, hG2, hst2⟩
      have G2 := Lib.hid hG2
      have ST2 := Lib.hid (HST.out.trans hst2)
      clear hG2 hst2 CMIX HWD HAT G HST
      obtain ⟨c25, f25⟩ := stt_at G2.out L2.out
      have HG3 := stt_setAt G2.out L2.out (a1 + 1)
      have e1 : ((a1 + 1 : Nat) : Int) = (a1 : Int) + 1 := by simp
      rw [e1] at HG3
      have G3 := Lib.hid HG3.1
      have ST3 := Lib.hid (ST2.out.trans HG3.2)
      clear HG3 e1
      by_cases h135 : a1 = 135
      · have HA := Lib.hid h135
        have hgo : ((a1 : Int) + 1 == 136) = true := by simp; omega
        obtain ⟨rs, hrs⟩ : ∃ r, r = perm 24 s2 := ⟨_, rfl⟩
        have LR : Hid (rs.length = 25) := by rw [hrs]; exact perm_len _ _ L2.out
        have HPERM : Hid (∀ wx, Step S S w wx → Calls Tryd.prog 38 #[.agg (s2.map u64V).toArray] wx fun e w' => e = .returned (.agg (rs.map u64V).toArray) ∧ Below wx.heap.size wx w') := by
          intro wx hwx
          rw [hrs]
          exact Kec.permK_any s2 L2.out wx (TAB.out wx hwx)
        have HF : Hid (feed1 (s1, a1) c = (rs, 0)) := by
          show feed1 (s1, a1) c = (rs, 0)
          rw [feed1_full h135, HS2.out, hrs]
        have RNG := Lib.hid (stt_range G3.out L2.out)
        have INF : Hid ((Tryd.prog.info? 76).map (·.size) = some (s2.map u64V).length) := by
          have h := info_lanes s2 L2.out
          show (Tryd.prog.info? 76).map (·.size) = some (s2.map u64V).length
          simpa using h
        clear h135 hrs
        go_wp2_with (refine wpList_load_mid rfl 76 (.tmp 38) rfl p 0 rfl (s2.map u64V) _ RNG.out Tryd.underlying76 rfl INF.out ?_)
        refine (HPERM.out _ ST3.out).mono ?_
        rintro e w4 ⟨rfl, hw4⟩
        have g4 := stt_later G3.out hw4
        have G4 := Lib.hid g4.1
        have ST4 := Lib.hid (ST3.out.trans g4.2)
        clear g4 hw4 RNG INF HPERM G3 ST3
        have g5 := stt_setAll G4.out L2.out rs LR.out
        have G5 := Lib.hid g5.1
        have ST5 := Lib.hid (ST4.out.trans g5.2)
        have THERE := Lib.hid (stt_there G4.out L2.out rs LR.out)
        have INF2 := Lib.hid (info_lanes rs LR.out)
        have ONE := Lib.hid (one_cells rs)
        obtain ⟨d25, e25⟩ := stt_at G5.out LR.out
        have g6 := stt_setAt G5.out LR.out 0
        have G6 : Hid ((AStt p (rs, 0)).holds S ((w4.setCells p 0 (rs.map u64V).toArray.toList).setCell ⟨p, 25, none⟩ (.int .i64 0))) := g6.1
        have ST6 : Hid (Step S S w ((w4.setCells p 0 (rs.map u64V).toArray.toList).setCell ⟨p, 25, none⟩ (.int .i64 0))) := ST5.out.trans g6.2
        clear g5 g6 G4 ST4 G5 ST5
        go_wp2_with (refine wpList_store_mid rfl 76 (.tmp 42) (.tmp 40) rfl p 0 (rs.map u64V).toArray rfl rfl THERE.out INF2.out ONE.out ?_)
        go_roundw
        case rel =>
          refine ⟨j + 1, by omega, by go_num, ?_, ST6.out⟩
          rw [HNEXT.out, HF.out]
          exact G6.out
        case measure => simp [intOf]; omega
      · have hgo : ((a1 : Int) + 1 == 136) = false := by simp; omega
        have HF : Hid (feed1 (s1, a1) c = (s2, a1 + 1)) := by
          show feed1 (s1, a1) c = (s2, a1 + 1)
          rw [feed1_part h135, HS2.out]
        clear h135
        go_wp2
        go_roundw
        case rel =>
          refine ⟨j + 1, by omega, by go_num, ?_, ST3.out⟩
          rw [HNEXT.out, HF.out]
          exact G3.out
        case measure => simp [intOf]; omega
    · have HJ : Hid (x.take j = x) := by
        show x.take j = x
        exact List.take_of_length_le (by rw [HN.out]; omega)
      go_wp2
      go_end0
      refine ⟨rfl, ?_, HST.out⟩
      have h := G.out
      rw [HJ.out] at h
      exact h
end Spo
end Go.Proofs.YtllmogicmimjlaaDoor

end
section
namespace Go.Proofs.YtllmogicmimjlaaDoor
open Go.RowKit Go.Own
namespace Spo
open Go.KecM Go.SpoM Byt

def RetYes (w : World) (e : Ending) (w' : World) : Prop := e = .returned (.bool true) ∧ Below w.heap.size w w'
abbrev sumV (l : List UInt8) : Value := .agg ((sha l).map byteV).toArray

/-- a slice of slices reads as these bytes -/
def PartsAt (w : World) (v : Value) (ls : List (List UInt8)) : Prop :=
  (v = .slice none 0 0 ∧ ls = []) ∨ ∃ b cap, v = .slice (some ⟨b, 0, none⟩) ls.length cap ∧ b < w.heap.size ∧ ∀ j, j < ls.length → ∃ ao c, w.cell? ⟨b, j, none⟩ = some (.slice ao (ls.getD j []).length c) ∧ View w (fun k => k < w.heap.size) ao (ls.getD j []) ∧ (ls.getD j []).length ≤ c ∧ c ≤ maxLen ∧ (ao = none → c = 0)

structure Kept (W : World) where
  H : Nat → List UInt8 → (Nat → Prop) → World → Prop
  keep : ∀ {p a S T U w w'}, H p a S w → Step T U w w' → Dis S T → H p a S w'
  lt : ∀ {p a S w}, H p a S w → ∀ k, S k → k < w.heap.size
  new : ∀ w, Below W.heap.size W w → Calls Tryd.prog 15 #[] w fun e w' => ∃ p S, e = .returned (.pointer (some ⟨p, 0, none⟩)) ∧ H p [] S w' ∧ Step (fun _ => False) S w w'
  write : ∀ (S D : Nat → Prop) p a ao x cap w, Below W.heap.size W w → H p a S w → View w D ao x → Dis D S → x.length ≤ cap → cap ≤ maxLen → (ao = none → cap = 0) → a.length + x.length ≤ 10000000 →
    Calls Tryd.prog 16 #[.pointer (some ⟨p, 0, none⟩), .slice ao x.length cap] w fun e w' => e = .returned (.tuple #[]) ∧ ∃ S', H p (a ++ x) S' w' ∧ Step S S' w w'
  sum : ∀ (S : Nat → Prop) p a w, Below W.heap.size W w → H p a S w → a.length ≤ 10000000 → Calls Tryd.prog 17 #[.pointer (some ⟨p, 0, none⟩)] w fun e w' => e = .returned (sumV a) ∧ Below w.heap.size w w'
  nilWrite : ∀ ao n cap w, Calls Tryd.prog 16 #[.pointer none, .slice ao n cap] w fun e w' => e = .returned (.tuple #[]) ∧ Below w.heap.size w w'
  nilSum : ∀ w, Below W.heap.size W w → Calls Tryd.prog 17 #[.pointer none] w fun e w' => e = .returned (sumV []) ∧ Below w.heap.size w w'
  all : ∀ v ls w, Below W.heap.size W w → PartsAt w v ls → ls.flatten.length ≤ 10000000 → ls.length ≤ 1000 → Calls Tryd.prog 7 #[v] w fun e w' => e = .returned (sumV ls.flatten) ∧ Below w.heap.size w w'

/-- in every later world too -/
def Kept.later {W W' : World} (K : Kept W) (g : Below W.heap.size W W') : Kept W' where
  H := K.H
  keep := K.keep
  lt := K.lt
  new w h := K.new w (g.trans (h.mono g.size))
  write S D p a ao x cap w h := K.write S D p a ao x cap w (g.trans (h.mono g.size))
  sum S p a w h := K.sum S p a w (g.trans (h.mono g.size))
  nilWrite := K.nilWrite
  nilSum w h := K.nilSum w (g.trans (h.mono g.size))
  all v ls w h := K.all v ls w (g.trans (h.mono g.size))

section
variable {W : World} (K : Kept W)
/-- a State as an object -/
def Kept.A (p : Nat) (a : List UInt8) : Asn := ⟨K.H p a, K.keep, K.lt⟩
variable {w : World} {Ps : List Asn} {p : Nat} {a : List UInt8}
end

/-- a new block of slices, as a call takes its parts -/
theorem parts_one {w : World} {ao : Option Addr} {x : List UInt8} {n cap : Nat} (hV : View w (fun k => k < w.heap.size) ao x) (hn : x.length = n) (h1 : n ≤ cap) (h2 : cap ≤ maxLen) (h3 : ao = none → cap = 0) (t : TypeId) :
    PartsAt (w.alloc (.cells #[.slice ao n cap] t)) (.slice (some ⟨w.heap.size, 0, none⟩) 1 1) [x] := by
  subst hn
  refine .inr ⟨w.heap.size, 1, rfl, by simp, fun j hj => ?_⟩
  have hj0 : j = 0 := by simpa using hj
  subst hj0
  refine ⟨ao, cap, cell_of_block (heap_alloc_new w _) rfl, ?_, h1, h2, h3⟩
  have hb : Below w.heap.size w (w.alloc (.cells #[.slice ao x.length cap] t)) := ((Own.St.start w).alloc _).below
  exact (vlater hV hb).mono (fun k hk => by simp; omega)

theorem PartsAt.later {w w' : World} {v : Value} {ls : List (List UInt8)} (h : PartsAt w v ls) (g : Below w.heap.size w w') : PartsAt w' v ls := by
  rcases h with h | ⟨b, cap, hv, hb, hc⟩
  · exact .inl h
  · refine .inr ⟨b, cap, hv, Nat.lt_of_lt_of_le hb g.size, fun j hj => ?_⟩
    obtain ⟨ao, c, h1, h2, h3, h4, h5⟩ := hc j hj
    exact ⟨ao, c, (World.cell?_of_block (w := w) (g.block b hb)).trans h1, (vlater h2 g).mono (fun k hk => Nat.lt_of_lt_of_le hk g.size), h3, h4, h5⟩
/-- a slot that holds parts -/
def partsTy (ls : List (List UInt8)) : Ty := ⟨fun v w => PartsAt w v ls, fun h g => h.later g⟩
theorem build1 {o : Oper} {x : Operand} (ho : o.op = .buildSlice 38 1 #[(0, x)]) (ρ : Operand → Value) {ao : Option Addr} {l : List UInt8} {n c : Nat} (hx : ρ x = .slice ao n c) (w : World) (hV : View w (fun k => k < w.heap.size) ao l) (hn : l.length = n) (h1 : n ≤ c) (h2 : c ≤ maxLen) (h3 : ao = none → c = 0) :
    ∃ v w', (execOp ρ o).run Tryd.prog w = .ok (.value v) w' ∧ (partsTy [l]).holds v w' ∧ Below w.heap.size w w' := by
  refine ⟨.slice (some ⟨w.heap.size, 0, none⟩) 1 1, w.alloc (.cells #[.slice ao n c] 22), ?_, parts_one hV hn h1 h2 h3 _, ((Own.St.start w).alloc _).below⟩
  simp [execOp, ho, hx, go_sem]
end Spo
end Go.Proofs.YtllmogicmimjlaaDoor

end
