/- The landed round's steps: rotate, move, combine. -/
import Derived.Test.YtfbpajiddkehnaaDoorKecT
namespace Go.Proofs.YtfbpajiddkehnaaDoor
open Go.RowKit Go.Own
namespace Kec
open Go.KecM

theorem idxTab {o : Oper} {y : Tmp} (ho : o.op = .indexAddr 54 (.global 0) (.tmp y)) (k : Nat) (hk : k < 25) : ∀ (ρ : Operand → Value) w, ρ (.global 0) = .pointer (some ⟨0, 0, none⟩) → ρ (.tmp y) = .int .i64 k → (execOp ρ o).run Tryd.prog w = .ok (.value (.pointer (some ⟨0, k, none⟩))) w := by
  intro ρ w h0 h1
  have hk' : (k : Int) < 25 := by omega
  simp [execOp, ho, h0, h1, go_sem, hk, hk']
theorem loadInt {o : Oper} {x : Tmp} (ho : o.op = .load 3 (.tmp x)) {a : Addr} {n : Nat} (ρ : Operand → Value) {w : World} (hc : w.cell? a = some (.int .i64 (n : Int))) (h0 : ρ (.tmp x) = .pointer (some a)) : (execOp ρ o).run Tryd.prog w = .ok (.value (.int .i64 (n : Int))) w := by
  simp [execOp, ho, h0, go_sem, hc]

set_option maxHeartbeats 4000000 in
theorem rotate_any (s : KecM.St) (hs : s.length = 25) (w : World) (TB : Tab w) :
    Calls Tryd.prog 26 #[.agg (s.map u64V).toArray] w fun e w' => e = .returned (.agg ((rho s).map u64V).toArray) ∧ Below w.heap.size w w' := by
  have TAB := Lib.hid TB
  clear TB
  have HSL := Lib.hid hs
  clear hs
  have INFO := Lib.hid (info_lanes s HSL.out)
  go_enter Tryd.func26, Tryd.ntmps26
  have hst := A64.box (A64.box (Own.St.start w) 41 s) 41 (List.replicate 25 0)
  simp only [size_alloc'] at hst
  go_wp2
  change Code.wp _ _ _ _ ((w.alloc (.cells (s.map u64V).toArray 41)).alloc (.cells ((List.replicate 25 (0 : KecM.W)).map u64V).toArray 41))
  generalize (w.alloc (.cells (s.map u64V).toArray 41)).alloc (.cells ((List.replicate 25 (0 : KecM.W)).map u64V).toArray 41) = W1 at hst ⊢
  obtain ⟨bs, hbs⟩ : ∃ b, b = w.heap.size := ⟨_, rfl⟩
  obtain ⟨br, hbr⟩ : ∃ b, b = w.heap.size + 1 := ⟨_, rfl⟩
  rw [← hbr] at hst ⊢
  have HST : Hid (Own.St w.heap.size w W1 [A64 br 41 (List.replicate 25 0), A64 bs 41 (rhst s 0)]) := by rw [hbs, rhst_zero s HSL.out]; exact hst
  rw [← hbs]
  clear hst hbs hbr
  go_loopw [4] (fun i wr => ∃ x : Nat, x ≤ 25 ∧ i = .int .i64 x ∧ Own.St w.heap.size w wr [A64 br 41 (List.replicate 25 0), A64 bs 41 (rhst s x)]) (fun i _ => 25 - (intOf i).toNat)
  case atStart => exact ⟨0, by omega, rfl, HST.out⟩
  case round =>
    obtain ⟨x, hx25, rfl, H⟩ := hrel
    have H := Lib.hid H
    by_cases hx : (x : Int) < 25
    · have hlx : x < 25 := by omega
      obtain ⟨z1, hz1⟩ : ∃ z, z = s.getD x 0 := ⟨_, rfl⟩
      obtain ⟨n, hn⟩ : ∃ n, n = turns.getD x 0 := ⟨_, rfl⟩
      obtain ⟨z2, hz2⟩ : ∃ z, z = rot z1 n := ⟨_, rfl⟩
      have hn64 : n < 64 := by
        have := turn_lt (x % 5) (x / 5)
        unfold KecM.turn at this
        rw [show x % 5 % 5 + 5 * (x / 5 % 5) = x by omega, ← hn] at this
        exact this
      have HC1 : Hid (∀ wx, Below wr.heap.size wr wx → wx.cell? ⟨bs, x, none⟩ = some (.int .u64 (z1.toNat : Int))) := fun wx hwx => cell_later (A64.cell H.out 1 rfl x (by rw [rhst_len]; exact hlx) (by rw [rhst_get s x hlx, hz1])).1 hwx
      have HT1 : Hid (∀ wx, Below wr.heap.size wr wx → wx.cell? ⟨0, x, none⟩ = some (.int .i64 (n : Int))) := fun wx hwx => by
        rw [hn]; exact TAB.out.later (H.out.below.trans (hwx.mono H.out.size)) x hlx
      have HR1 : Hid (∀ wx, Calls Tryd.prog 32 #[.int .u64 z1.toNat, .int .i64 n] wx fun e w' => e = .returned (.int .u64 z2.toNat) ∧ Below wx.heap.size wx w') := by
        intro wx; rw [hz2]; exact rotK_below z1 n hn64 wx
      have HZ : Hid ((rhst s x).set x z2 = rhst s (x + 1)) := by show (rhst s x).set x z2 = _; rw [hz2, hz1, hn, rhst_set]
      clear hz1 hn hz2 hn64
      go_wp2
      refine wp_laxT_list 9 (by kernel_rfl) (by kernel_rfl) (by kernel_rfl) (by kernel_rfl) (by kernel_rfl) ?_
      simp only [List.take_succ_cons, List.take_zero, List.drop_succ_cons, List.drop_zero]
      refine wpL_move (.int .i64 x) rfl (by kernel_rfl) (by kernel_rfl) (by kernel_rfl) (by kernel_rfl) ?_
      refine wpL_move (.int .i64 x) rfl (by kernel_rfl) (by kernel_rfl) (by kernel_rfl) (by kernel_rfl) ?_
      refine wpL_run2 (x := .tmp 1) (y := .tmp 8) (.pointer (some ⟨bs, 0, none⟩)) (.int .i64 x) (.pointer (some ⟨bs, x, none⟩)) (by kernel_rfl) (by kernel_rfl) (by kernel_rfl) (by kernel_rfl) (by kernel_rfl) (by kernel_rfl) (fun wx ρ hwx h0 h1 hc => idx25 rfl x hlx bs ρ wx h0 h1) ?_
      refine wpL_run1 (x := .tmp 9) (.pointer (some ⟨bs, x, none⟩)) (.int .u64 z1.toNat) (by kernel_rfl) (by kernel_rfl) (by kernel_rfl) (by kernel_rfl) (by kernel_rfl) (fun wx ρ hwx h0 hc => load64 rfl ρ (HC1.out wx hwx) h0) ?_
      refine wpL_move (.int .i64 x) rfl (by kernel_rfl) (by kernel_rfl) (by kernel_rfl) (by kernel_rfl) ?_
      refine wpL_run2 (x := .global 0) (y := .tmp 11) (.pointer (some ⟨0, 0, none⟩)) (.int .i64 x) (.pointer (some ⟨0, x, none⟩)) (by kernel_rfl) (by kernel_rfl) (by kernel_rfl) (by kernel_rfl) (by kernel_rfl) (by kernel_rfl) (fun wx ρ hwx h0 h1 hc => idxTab rfl x hlx ρ wx h0 h1) ?_
      refine wpL_run1 (x := .tmp 12) (.pointer (some ⟨0, x, none⟩)) (.int .i64 n) (by kernel_rfl) (by kernel_rfl) (by kernel_rfl) (by kernel_rfl) (by kernel_rfl) (fun wx ρ hwx h0 hc => loadInt rfl ρ (HT1.out wx hwx) h0) ?_
      refine wpL_fn (.int .u64 z2.toNat) [.int .u64 z1.toNat, .int .i64 n] rfl (by kernel_rfl) (by kernel_rfl) (by kernel_rfl) (by kernel_rfl) (fun _ _ => by simp [go_sem]) (fun wx hwx => HR1.out wx) ?_
      refine wpL_run2 (x := .tmp 1) (y := .tmp 7) (.pointer (some ⟨bs, 0, none⟩)) (.int .i64 x) (.pointer (some ⟨bs, x, none⟩)) (by kernel_rfl) (by kernel_rfl) (by kernel_rfl) (by kernel_rfl) (by kernel_rfl) (by kernel_rfl) (fun wx ρ hwx h0 h1 hc => idx25 rfl x hlx bs ρ wx h0 h1) ?_
      refine wpL_end (by kernel_rfl) (fun wd hwd => ?_)
      simp only [FinL, setL, List.set_cons_zero, List.set_cons_succ]
      have G2 := Lib.hid (H.out.later hwd)
      obtain ⟨cp, fp⟩ := A64.cell G2.out 1 rfl x (by rw [rhst_len]; exact hlx) rfl
      have PUT := Lib.hid (A64.store G2.out 1 rfl x z2)
      clear hwd HC1 HT1 HR1 H
      go_wp2
      go_roundw
      case rel =>
        have h := PUT.out
        rw [HZ.out] at h
        exact ⟨x + 1, by omega, by go_num, h⟩
      case measure => simp [intOf]; omega
    · obtain ⟨rs, hrs⟩ : ∃ r, r = rho s := ⟨_, rfl⟩
      have LR : Hid (rs.length = 25) := by rw [hrs]; exact rho_len _
      have H5 : Hid (Own.St w.heap.size w wr [A64 br 41 (List.replicate 25 0), A64 bs 41 rs]) := by
        have h := H.out
        rw [show x = 25 by omega, rhst_all, ← hrs] at h
        exact h
      have HRS := Lib.hid hrs
      clear hrs H hx25
      have LAST := Lib.hid (A64.setAll H5.out 0 rfl rs (by rw [LR.out]; rfl))
      have ROW := Lib.hid (A64.row H5.out 1 rfl)
      have THERE := Lib.hid (A64.there H5.out 0 rfl rs (by rw [LR.out]; rfl))
      have INFO2 := Lib.hid (info_lanes rs LR.out)
      have ONE := Lib.hid (one_cells rs)
      go_wp2_with (first
        | (refine wpList_load_row rfl 41 (.tmp 1) rfl bs rfl 41 _ (0, 0) _ ROW.out Tryd.underlying41 rfl INFO2.out ?_)
        | (refine wpList_store_mid rfl 41 (.tmp 2) (.tmp 17) rfl br 0 (rs.map u64V).toArray rfl rfl THERE.out INFO2.out ONE.out ?_))
      have END := Lib.hid (A64.row LAST.out 0 rfl)
      refine bodyPost_ret (results_cell_row rfl _ _ br 41 _ (0, 0) _ rfl END.out Tryd.underlying41 rfl INFO2.out) rfl ?_
      refine ⟨?_, LAST.out.below⟩
      rw [HRS.out]

set_option maxHeartbeats 4000000 in
theorem move_any (s : KecM.St) (hs : s.length = 25) (w : World) :
    Calls Tryd.prog 29 #[.agg (s.map u64V).toArray] w fun e w' => e = .returned (.agg ((pim s).map u64V).toArray) ∧ Below w.heap.size w w' := by
  have HSL := Lib.hid hs
  clear hs
  have INFO := Lib.hid (info_lanes s HSL.out)
  go_enter Tryd.func29, Tryd.ntmps29
  have hst := A64.box (A64.box (A64.box (Own.St.start w) 41 s) 41 (List.replicate 25 0)) 41 (List.replicate 25 0)
  simp only [size_alloc'] at hst
  go_wp2
  change Code.wp _ _ _ _ (((w.alloc (.cells (s.map u64V).toArray 41)).alloc (.cells ((List.replicate 25 (0 : KecM.W)).map u64V).toArray 41)).alloc (.cells ((List.replicate 25 (0 : KecM.W)).map u64V).toArray 41))
  generalize ((w.alloc (.cells (s.map u64V).toArray 41)).alloc (.cells ((List.replicate 25 (0 : KecM.W)).map u64V).toArray 41)).alloc (.cells ((List.replicate 25 (0 : KecM.W)).map u64V).toArray 41) = W1 at hst ⊢
  obtain ⟨bs, hbs⟩ : ∃ b, b = w.heap.size := ⟨_, rfl⟩
  obtain ⟨br, hbr⟩ : ∃ b, b = w.heap.size + 1 := ⟨_, rfl⟩
  obtain ⟨bm, hbm⟩ : ∃ b, b = w.heap.size + 1 + 1 := ⟨_, rfl⟩
  rw [← hbm, ← hbr] at hst ⊢
  have HST : Hid (Own.St w.heap.size w W1 [A64 bm 41 (pist s (5 * 0)), A64 br 41 (List.replicate 25 0), A64 bs 41 s]) := by rw [hbs, Nat.mul_zero, pist_zero]; exact hst
  rw [← hbs]
  clear hst hbs hbr hbm
  go_loopw [6] (fun i wr => ∃ x : Nat, x ≤ 5 ∧ i = .int .i64 x ∧ Own.St w.heap.size w wr [A64 bm 41 (pist s (5 * x)), A64 br 41 (List.replicate 25 0), A64 bs 41 s]) (fun i _ => 5 - (intOf i).toNat)
  case atStart => exact ⟨0, by omega, rfl, HST.out⟩
  case round =>
    obtain ⟨x, hx5, rfl, H⟩ := hrel
    have H := Lib.hid H
    by_cases hx : (x : Int) < 5
    · have hxn : x < 5 := by omega
      obtain ⟨wo, hwo⟩ : ∃ wo, wo = wr := ⟨_, rfl⟩
      rw [← hwo] at H ⊢
      clear hwo
      go_wp2
      go_loopw [9] (fun i wr => ∃ y : Nat, y ≤ 5 ∧ i = .int .i64 y ∧ Own.St w.heap.size w wr [A64 bm 41 (pist s (5 * x + y)), A64 br 41 (List.replicate 25 0), A64 bs 41 s]) (fun i _ => 5 - (intOf i).toNat)
      case atStart => exact ⟨0, by omega, rfl, H.out⟩
      case round =>
        obtain ⟨y, hy5, rfl, G⟩ := hrel
        have G := Lib.hid G
        by_cases hy : (y : Int) < 5
        · have hyn : y < 5 := by omega
          obtain ⟨i, hi⟩ : ∃ i, i = x % 5 + 5 * (y % 5) := ⟨_, rfl⟩
          have hi' : i = x + 5 * y := by omega
          have hil : i < 25 := by omega
          have hil' : (i : Int) < 25 := by omega
          obtain ⟨k, hk⟩ : ∃ k, k = y % 5 + 5 * ((2 * x + 3 * y) % 5) := ⟨_, rfl⟩
          have hk' : k = y + 5 * ((2 * x + 3 * y) % 5) := by omega
          have hkl : k < 25 := by omega
          have hkl' : (k : Int) < 25 := by omega
          obtain ⟨z, hz⟩ : ∃ z, z = at' s x y := ⟨_, rfl⟩
          have C1 : Hid (Calls Tryd.prog 33 #[.int .i64 y, .int .i64 (2 * (x : Int) + 3 * (y : Int))] wr fun e w' => e = .returned (.int .i64 k) ∧ wr = w') := by
            have h := atK_nat y (2 * x + 3 * y) k (by omega) (by omega) hk wr
            rw [show ((2 * x + 3 * y : Nat) : Int) = 2 * (x : Int) + 3 * (y : Int) by omega] at h
            exact h
          have C2 := Lib.hid (atK_nat x y i (by omega) (by omega) hi wr)
          have ci := (A64.cell G.out 2 rfl i (by rw [HSL.out]; exact hil) (by rw [hi', at_get s x y hxn hyn, ← hz])).1
          obtain ⟨cp, fp⟩ := A64.cell G.out 0 rfl k (by rw [pist_len]; exact hkl) rfl
          have PUT : Hid (Own.St w.heap.size w (wr.setCell ⟨bm, k, none⟩ (.int .u64 (z.toNat : Int))) [A64 bm 41 (pist s (5 * x + (y + 1))), A64 br 41 (List.replicate 25 0), A64 bs 41 s]) := by
            have h := A64.store G.out 0 rfl k z
            have e : (pist s (5 * x + y)).set k z = pist s (5 * x + (y + 1)) := by rw [hk', hz, pist_set s x y hxn hyn]
            rw [e] at h
            exact h
          clear hz hi hi' hk hk'
          go_wp2_with (fail)
          refine C1.out.mono ?_
          rintro e w' ⟨rfl, rfl⟩
          go_wp2_with (fail)
          refine C2.out.mono ?_
          rintro e w' ⟨rfl, rfl⟩
          go_wp2
          go_roundw
          case rel => exact ⟨y + 1, by omega, by go_num, PUT.out⟩
          case measure => simp [intOf]; omega
        · have G3 : Hid (Own.St w.heap.size w wr [A64 bm 41 (pist s (5 * (x + 1))), A64 br 41 (List.replicate 25 0), A64 bs 41 s]) := by
            have h := G.out
            rw [show 5 * x + y = 5 * (x + 1) by omega] at h
            exact h
          clear hy5
          go_wp2
          go_roundw
          case rel => exact ⟨x + 1, by omega, by go_num, G3.out⟩
          case measure => simp [intOf]; omega
    · obtain ⟨rs, hrs⟩ : ∃ r, r = pim s := ⟨_, rfl⟩
      have LR : Hid (rs.length = 25) := by rw [hrs]; exact mk_len _
      have H5 : Hid (Own.St w.heap.size w wr [A64 bm 41 rs, A64 br 41 (List.replicate 25 0), A64 bs 41 s]) := by
        have h := H.out
        rw [show 5 * x = 25 by omega, pist_all, ← hrs] at h
        exact h
      have HRS := Lib.hid hrs
      clear hrs H hx5
      have LAST := Lib.hid (A64.setAll H5.out 1 rfl rs (by rw [LR.out]; rfl))
      have ROW := Lib.hid (A64.row H5.out 0 rfl)
      have THERE := Lib.hid (A64.there H5.out 1 rfl rs (by rw [LR.out]; rfl))
      have INFO2 := Lib.hid (info_lanes rs LR.out)
      have ONE := Lib.hid (one_cells rs)
      go_wp2_with (first
        | (refine wpList_load_row rfl 41 (.tmp 3) rfl bm rfl 41 _ (0, 0) _ ROW.out Tryd.underlying41 rfl INFO2.out ?_)
        | (refine wpList_store_mid rfl 41 (.tmp 2) (.tmp 27) rfl br 0 (rs.map u64V).toArray rfl rfl THERE.out INFO2.out ONE.out ?_))
      have END := Lib.hid (A64.row LAST.out 1 rfl)
      refine bodyPost_ret (results_cell_row rfl _ _ br 41 _ (0, 0) _ rfl END.out Tryd.underlying41 rfl INFO2.out) rfl ?_
      refine ⟨?_, LAST.out.below⟩
      rw [HRS.out]

set_option maxHeartbeats 4000000 in
theorem combine_any (s : KecM.St) (hs : s.length = 25) (w : World) :
    Calls Tryd.prog 28 #[.agg (s.map u64V).toArray] w fun e w' => e = .returned (.agg ((chi s).map u64V).toArray) ∧ Below w.heap.size w w' := by
  have HSL := Lib.hid hs
  clear hs
  have INFO := Lib.hid (info_lanes s HSL.out)
  go_enter Tryd.func28, Tryd.ntmps28
  have hst := A64.box (A64.box (Own.St.start w) 41 s) 41 (List.replicate 25 0)
  have hst2 := A64.box hst 41 (List.replicate 25 0)
  simp only [size_alloc'] at hst hst2
  have ROW := Lib.hid (A64.row hst 1 rfl)
  have THERE := Lib.hid (A64.there hst2 0 rfl s (by rw [HSL.out]; rfl))
  have ONE := Lib.hid (one_cells s)
  have ALL := Lib.hid (A64.setAll hst2 0 rfl s (by rw [HSL.out]; rfl))
  clear hst hst2
  go_wp2_with (first
    | (refine wpList_load_row rfl 41 (.tmp 1) rfl w.heap.size rfl 41 _ (0, 0) _ ROW.out Tryd.underlying41 rfl INFO.out ?_)
    | (refine wpList_store_mid rfl 41 (.tmp 3) (.tmp 6) rfl (w.heap.size + 1 + 1) 0 (s.map u64V).toArray rfl rfl THERE.out INFO.out ONE.out ?_))
  clear THERE ROW
  change Code.wp _ _ _ _ ((((w.alloc (.cells (s.map u64V).toArray 41)).alloc (.cells ((List.replicate 25 (0 : KecM.W)).map u64V).toArray 41)).alloc (.cells ((List.replicate 25 (0 : KecM.W)).map u64V).toArray 41)).setCells (w.heap.size + 1 + 1) 0 (s.map u64V).toArray.toList)
  generalize (((w.alloc (.cells (s.map u64V).toArray 41)).alloc (.cells ((List.replicate 25 (0 : KecM.W)).map u64V).toArray 41)).alloc (.cells ((List.replicate 25 (0 : KecM.W)).map u64V).toArray 41)).setCells (w.heap.size + 1 + 1) 0 (s.map u64V).toArray.toList = W1 at ALL ⊢
  obtain ⟨bs, hbs⟩ : ∃ b, b = w.heap.size := ⟨_, rfl⟩
  obtain ⟨br, hbr⟩ : ∃ b, b = w.heap.size + 1 := ⟨_, rfl⟩
  obtain ⟨bc, hbc⟩ : ∃ b, b = w.heap.size + 1 + 1 := ⟨_, rfl⟩
  rw [← hbc, ← hbr] at ALL ⊢
  have HST : Hid (Own.St w.heap.size w W1 [A64 bc 41 (chst s (5 * 0)), A64 br 41 (List.replicate 25 0), A64 bs 41 s]) := by rw [hbs, Nat.mul_zero, chst_zero s HSL.out]; exact ALL.out
  rw [← hbs]
  clear ALL hbs hbr hbc
  go_loopw [7] (fun i wr => ∃ x : Nat, x ≤ 5 ∧ i = .int .i64 x ∧ Own.St w.heap.size w wr [A64 bc 41 (chst s (5 * x)), A64 br 41 (List.replicate 25 0), A64 bs 41 s]) (fun i _ => 5 - (intOf i).toNat)
  case atStart => exact ⟨0, by omega, rfl, HST.out⟩
  case round =>
    obtain ⟨x, hx5, rfl, H⟩ := hrel
    have H := Lib.hid H
    by_cases hx : (x : Int) < 5
    · have hxn : x < 5 := by omega
      have hx10 : x ≤ 1000 := by omega
      obtain ⟨wo, hwo⟩ : ∃ wo, wo = wr := ⟨_, rfl⟩
      rw [← hwo] at H ⊢
      clear hwo
      go_wp2
      go_loopw [10] (fun i wr => ∃ y : Nat, y ≤ 5 ∧ i = .int .i64 y ∧ Own.St w.heap.size w wr [A64 bc 41 (chst s (5 * x + y)), A64 br 41 (List.replicate 25 0), A64 bs 41 s]) (fun i _ => 5 - (intOf i).toNat)
      case atStart => exact ⟨0, by omega, rfl, H.out⟩
      case round =>
        obtain ⟨y, hy5, rfl, G⟩ := hrel
        have G := Lib.hid G
        by_cases hy : (y : Int) < 5
        · have hyn : y < 5 := by omega
          obtain ⟨n1, hn1⟩ : ∃ n, n = x + 1 := ⟨_, rfl⟩
          obtain ⟨n2, hn2⟩ : ∃ n, n = x + 2 := ⟨_, rfl⟩
          obtain ⟨i0, hi0⟩ : ∃ i, i = x % 5 + 5 * (y % 5) := ⟨_, rfl⟩
          obtain ⟨i1, hi1⟩ : ∃ i, i = n1 % 5 + 5 * (y % 5) := ⟨_, rfl⟩
          obtain ⟨i2, hi2⟩ : ∃ i, i = n2 % 5 + 5 * (y % 5) := ⟨_, rfl⟩
          have hi0' : i0 = x + 5 * y := by omega
          have hli0 : i0 < 25 := by omega
          have hli1 : i1 < 25 := by omega
          have hli2 : i2 < 25 := by omega
          obtain ⟨z1, hz1⟩ : ∃ z, z = at' s x y := ⟨_, rfl⟩
          obtain ⟨z2, hz2⟩ : ∃ z, z = at' s (x + 2) y := ⟨_, rfl⟩
          obtain ⟨z3, hz3⟩ : ∃ z, z = at' s (x + 1) y := ⟨_, rfl⟩
          obtain ⟨z4, hz4⟩ : ∃ z, z = z2 &&& ~~~ z3 := ⟨_, rfl⟩
          obtain ⟨z5, hz5⟩ : ∃ z, z = z1 ^^^ z4 := ⟨_, rfl⟩
          have HC1 : Hid (∀ wx, Below wr.heap.size wr wx → wx.cell? ⟨bc, i0, none⟩ = some (.int .u64 (z1.toNat : Int))) := fun wx hwx => cell_later (A64.cell G.out 0 rfl i0 (by rw [chst_len]; exact hli0) (by rw [hi0', chst_get s x y hxn hyn, hz1])).1 hwx
          have HC2 : Hid (∀ wx, Below wr.heap.size wr wx → wx.cell? ⟨bs, i2, none⟩ = some (.int .u64 (z2.toNat : Int))) := fun wx hwx => cell_later (A64.cell G.out 2 rfl i2 (by rw [HSL.out]; exact hli2) (by rw [hz2, hi2, hn2]; rfl)).1 hwx
          have HC3 : Hid (∀ wx, Below wr.heap.size wr wx → wx.cell? ⟨bs, i1, none⟩ = some (.int .u64 (z3.toNat : Int))) := fun wx hwx => cell_later (A64.cell G.out 2 rfl i1 (by rw [HSL.out]; exact hli1) (by rw [hz3, hi1, hn1]; rfl)).1 hwx
          have HX4 : Hid (bits .andNot .u64 (z2.toNat : Int) (z3.toNat : Int) = (z4.toNat : Int)) := by
            show bits .andNot .u64 (z2.toNat : Int) (z3.toNat : Int) = (z4.toNat : Int)
            rw [u64_andNot_nat _ _ z2.isLt z3.isLt, hz4, BitVec.toNat_and, BitVec.toNat_not]
          have HX5 : Hid (bits .xor .u64 (z1.toNat : Int) (z4.toNat : Int) = (z5.toNat : Int)) := by
            show bits .xor .u64 (z1.toNat : Int) (z4.toNat : Int) = (z5.toNat : Int)
            rw [u64_xor_nat _ _ z1.isLt z4.isLt, hz5, BitVec.toNat_xor]
          have HZ : Hid ((chst s (5 * x + y)).set i0 z5 = chst s (5 * x + (y + 1))) := by
            show (chst s (5 * x + y)).set i0 z5 = _
            rw [hi0', hz5, hz4, hz3, hz2, hz1, chst_set s x y hxn hyn]
          clear hz1 hz2 hz3 hz4 hz5
          go_wp2
          refine wp_laxT_list 20 (by kernel_rfl) (by kernel_rfl) (by kernel_rfl) (by kernel_rfl) (by kernel_rfl) ?_
          simp only [List.take_succ_cons, List.take_zero, List.drop_succ_cons, List.drop_zero]
          refine wpL_move (.int .i64 x) rfl (by kernel_rfl) (by kernel_rfl) (by kernel_rfl) (by kernel_rfl) ?_
          refine wpL_move (.int .i64 y) rfl (by kernel_rfl) (by kernel_rfl) (by kernel_rfl) (by kernel_rfl) ?_
          refine wpL_fn (.int .i64 i0) [.int .i64 x, .int .i64 y] rfl (by kernel_rfl) (by kernel_rfl) (by kernel_rfl) (by kernel_rfl) (fun _ _ => by simp [go_sem]) (fun wx hwx => atK_below x y i0 (by omega) (by omega) hi0 wx) ?_
          refine wpL_run2 (x := .tmp 3) (y := .tmp 15) (.pointer (some ⟨bc, 0, none⟩)) (.int .i64 i0) (.pointer (some ⟨bc, i0, none⟩)) (by kernel_rfl) (by kernel_rfl) (by kernel_rfl) (by kernel_rfl) (by kernel_rfl) (by kernel_rfl) (fun wx ρ hwx h0 h1 hc => idx25 rfl i0 hli0 bc ρ wx h0 h1) ?_
          refine wpL_run1 (x := .tmp 16) (.pointer (some ⟨bc, i0, none⟩)) (.int .u64 z1.toNat) (by kernel_rfl) (by kernel_rfl) (by kernel_rfl) (by kernel_rfl) (by kernel_rfl) (fun wx ρ hwx h0 hc => load64 rfl ρ (HC1.out wx hwx) h0) ?_
          refine wpL_move (.int .i64 x) rfl (by kernel_rfl) (by kernel_rfl) (by kernel_rfl) (by kernel_rfl) ?_
          refine wpL_run1 (x := .tmp 18) (.int .i64 x) (.int .i64 (n2 : Int)) (by kernel_rfl) (by kernel_rfl) (by kernel_rfl) (by kernel_rfl) (by kernel_rfl) (fun wx ρ hwx h0 hc => add_litN 2 rfl x hx10 (by decide) hn2 ρ wx h0 hc) ?_
          refine wpL_move (.int .i64 y) rfl (by kernel_rfl) (by kernel_rfl) (by kernel_rfl) (by kernel_rfl) ?_
          refine wpL_fn (.int .i64 i2) [.int .i64 (n2 : Int), .int .i64 y] rfl (by kernel_rfl) (by kernel_rfl) (by kernel_rfl) (by kernel_rfl) (fun _ _ => by simp [go_sem]) (fun wx hwx => atK_below n2 y i2 (by omega) (by omega) hi2 wx) ?_
          refine wpL_run2 (x := .tmp 1) (y := .tmp 21) (.pointer (some ⟨bs, 0, none⟩)) (.int .i64 i2) (.pointer (some ⟨bs, i2, none⟩)) (by kernel_rfl) (by kernel_rfl) (by kernel_rfl) (by kernel_rfl) (by kernel_rfl) (by kernel_rfl) (fun wx ρ hwx h0 h1 hc => idx25 rfl i2 hli2 bs ρ wx h0 h1) ?_
          refine wpL_run1 (x := .tmp 22) (.pointer (some ⟨bs, i2, none⟩)) (.int .u64 z2.toNat) (by kernel_rfl) (by kernel_rfl) (by kernel_rfl) (by kernel_rfl) (by kernel_rfl) (fun wx ρ hwx h0 hc => load64 rfl ρ (HC2.out wx hwx) h0) ?_
          refine wpL_move (.int .i64 x) rfl (by kernel_rfl) (by kernel_rfl) (by kernel_rfl) (by kernel_rfl) ?_
          refine wpL_run1 (x := .tmp 24) (.int .i64 x) (.int .i64 (n1 : Int)) (by kernel_rfl) (by kernel_rfl) (by kernel_rfl) (by kernel_rfl) (by kernel_rfl) (fun wx ρ hwx h0 hc => add_litN 1 rfl x hx10 (by decide) hn1 ρ wx h0 hc) ?_
          refine wpL_move (.int .i64 y) rfl (by kernel_rfl) (by kernel_rfl) (by kernel_rfl) (by kernel_rfl) ?_
          refine wpL_fn (.int .i64 i1) [.int .i64 (n1 : Int), .int .i64 y] rfl (by kernel_rfl) (by kernel_rfl) (by kernel_rfl) (by kernel_rfl) (fun _ _ => by simp [go_sem]) (fun wx hwx => atK_below n1 y i1 (by omega) (by omega) hi1 wx) ?_
          refine wpL_run2 (x := .tmp 1) (y := .tmp 27) (.pointer (some ⟨bs, 0, none⟩)) (.int .i64 i1) (.pointer (some ⟨bs, i1, none⟩)) (by kernel_rfl) (by kernel_rfl) (by kernel_rfl) (by kernel_rfl) (by kernel_rfl) (by kernel_rfl) (fun wx ρ hwx h0 h1 hc => idx25 rfl i1 hli1 bs ρ wx h0 h1) ?_
          refine wpL_run1 (x := .tmp 28) (.pointer (some ⟨bs, i1, none⟩)) (.int .u64 z3.toNat) (by kernel_rfl) (by kernel_rfl) (by kernel_rfl) (by kernel_rfl) (by kernel_rfl) (fun wx ρ hwx h0 hc => load64 rfl ρ (HC3.out wx hwx) h0) ?_
          refine wpL_run2 (x := .tmp 23) (y := .tmp 29) (.int .u64 z2.toNat) (.int .u64 z3.toNat) (.int .u64 z4.toNat) (by kernel_rfl) (by kernel_rfl) (by kernel_rfl) (by kernel_rfl) (by kernel_rfl) (by kernel_rfl) (fun wx ρ hwx h0 h1 hc => by simp [h0, h1, hc, go_sem, HX4.out]) ?_
          refine wpL_run2 (x := .tmp 17) (y := .tmp 30) (.int .u64 z1.toNat) (.int .u64 z4.toNat) (.int .u64 z5.toNat) (by kernel_rfl) (by kernel_rfl) (by kernel_rfl) (by kernel_rfl) (by kernel_rfl) (by kernel_rfl) (fun wx ρ hwx h0 h1 hc => by simp [h0, h1, hc, go_sem, HX5.out]) ?_
          refine wpL_run2 (x := .tmp 3) (y := .tmp 15) (.pointer (some ⟨bc, 0, none⟩)) (.int .i64 i0) (.pointer (some ⟨bc, i0, none⟩)) (by kernel_rfl) (by kernel_rfl) (by kernel_rfl) (by kernel_rfl) (by kernel_rfl) (by kernel_rfl) (fun wx ρ hwx h0 h1 hc => idx25 rfl i0 hli0 bc ρ wx h0 h1) ?_
          refine wpL_end (by kernel_rfl) (fun wd hwd => ?_)
          simp only [FinL, setL, List.set_cons_zero, List.set_cons_succ]
          have G2 := Lib.hid (G.out.later hwd)
          obtain ⟨cp, fp⟩ := A64.cell G2.out 0 rfl i0 (by rw [chst_len]; exact hli0) rfl
          have PUT := Lib.hid (A64.store G2.out 0 rfl i0 z5)
          clear hwd HC1 HC2 HC3 HX4 HX5 hi0 hi1 hi2 hi0' hn1 hn2 G
          go_wp2
          go_roundw
          case rel =>
            have h := PUT.out
            rw [HZ.out] at h
            exact ⟨y + 1, by omega, by go_num, h⟩
          case measure => simp [intOf]; omega
        · have G3 : Hid (Own.St w.heap.size w wr [A64 bc 41 (chst s (5 * (x + 1))), A64 br 41 (List.replicate 25 0), A64 bs 41 s]) := by
            have h := G.out
            rw [show 5 * x + y = 5 * (x + 1) by omega] at h
            exact h
          clear hy5
          go_wp2
          go_roundw
          case rel => exact ⟨x + 1, by omega, by go_num, G3.out⟩
          case measure => simp [intOf]; omega
    · obtain ⟨rs, hrs⟩ : ∃ r, r = chi s := ⟨_, rfl⟩
      have LR : Hid (rs.length = 25) := by rw [hrs]; exact mk_len _
      have H5 : Hid (Own.St w.heap.size w wr [A64 bc 41 rs, A64 br 41 (List.replicate 25 0), A64 bs 41 s]) := by
        have h := H.out
        rw [show 5 * x = 25 by omega, chst_all, ← hrs] at h
        exact h
      have HRS := Lib.hid hrs
      clear hrs H hx5
      have LAST := Lib.hid (A64.setAll H5.out 1 rfl rs (by rw [LR.out]; rfl))
      have ROW := Lib.hid (A64.row H5.out 0 rfl)
      have THERE := Lib.hid (A64.there H5.out 1 rfl rs (by rw [LR.out]; rfl))
      have INFO2 := Lib.hid (info_lanes rs LR.out)
      have ONE := Lib.hid (one_cells rs)
      go_wp2_with (first
        | (refine wpList_load_row rfl 41 (.tmp 3) rfl bc rfl 41 _ (0, 0) _ ROW.out Tryd.underlying41 rfl INFO2.out ?_)
        | (refine wpList_store_mid rfl 41 (.tmp 2) (.tmp 35) rfl br 0 (rs.map u64V).toArray rfl rfl THERE.out INFO2.out ONE.out ?_))
      have END := Lib.hid (A64.row LAST.out 1 rfl)
      refine bodyPost_ret (results_cell_row rfl _ _ br 41 _ (0, 0) _ rfl END.out Tryd.underlying41 rfl INFO2.out) rfl ?_
      refine ⟨?_, LAST.out.below⟩
      rw [HRS.out]

end Kec
end Go.Proofs.YtfbpajiddkehnaaDoor
