/- The landed package's small functions: mix, front. -/
import Derived.Test.YtfbpajiddkehnaaDoorKecV
import Derived.Test.YtfbpajiddkehnaaDoorSpoR
import Derived.Test.YtfbpajiddkehnaaDoorLaxF
namespace Go.Proofs.YtfbpajiddkehnaaDoor
open Go.RowKit Go.Own
namespace Spo
open Go.KecM Go.SpoM Byt
open Kec (A64 u64V info_lanes one_cells)

set_option maxHeartbeats 800000 in
theorem mixK_any (b i : Nat) (hi : i < 136) (c : UInt8) {z1 z4 : KecM.W} (hz : z4 = z1 ^^^ (BitVec.ofNat 64 c.toNat <<< (8 * (i % 8)))) (k : Nat) (hk : k = i / 8) (w : World) (hc : w.cell? ⟨b, k, none⟩ = some (.int .u64 (z1.toNat : Int))) (hf : w.frozen? ⟨b, k, none⟩ = false) :
    Calls Tryd.prog 16 #[.pointer (some ⟨b, 0, none⟩), .int .i64 i, .int .u8 c.toNat] w fun e w' => e = .returned (.tuple #[]) ∧ ∃ wd, Below w.heap.size w wd ∧ w' = wd.setCell ⟨b, k, none⟩ (.int .u64 (z4.toNat : Int)) := by
  obtain ⟨r, hr⟩ : ∃ r, r = i % 8 := ⟨_, rfl⟩
  obtain ⟨e, he⟩ : ∃ e, e = 8 * r := ⟨_, rfl⟩
  have hk25 : k < 25 := by omega
  have hr8 : r < 8 := by omega
  have he64 : e < 64 := by omega
  have hi1000 : i ≤ 1000 := by omega
  obtain ⟨z2, hz2⟩ : ∃ z, z = BitVec.ofNat 64 c.toNat := ⟨_, rfl⟩
  obtain ⟨z3, hz3⟩ : ∃ z, z = z2 <<< e := ⟨_, rfl⟩
  have HZ2 := Lib.hid hz2
  have HZ3 := Lib.hid hz3
  have HX4 : Hid (bits .xor .u64 (z1.toNat : Int) (z3.toNat : Int) = (z4.toNat : Int)) := by
    show bits .xor .u64 (z1.toNat : Int) (z3.toNat : Int) = (z4.toNat : Int)
    rw [u64_xor_nat _ _ z1.isLt z3.isLt, hz, ← hr, ← he, ← hz2, ← hz3, BitVec.toNat_xor]
  have HC1 : Hid (∀ wx, Below w.heap.size w wx → wx.cell? ⟨b, k, none⟩ = some (.int .u64 (z1.toNat : Int))) := fun wx hwx => Kec.cell_later hc hwx
  have HF1 : Hid (∀ wx, Below w.heap.size w wx → wx.frozen? ⟨b, k, none⟩ = false) := fun wx hwx => (hwx.frozen (p := ⟨b, k, none⟩) (World.block_lt_of_cell? w _ hc)).trans hf
  have HK := Lib.hid hk
  have HR := Lib.hid hr
  have HE := Lib.hid he
  clear hz hk hr he hz2 hz3 hc hf
  go_enter Tryd.func16, Tryd.ntmps16
  go_wp2_with (fail)
  refine wp_laxW_list 15 (by kernel_rfl) (by kernel_rfl) (by kernel_rfl) (by kernel_rfl) (by kernel_rfl) ?_
  simp only [List.take_succ_cons, List.take_zero, List.drop_succ_cons, List.drop_zero]
  refine wpL_move (.pointer (some ⟨b, 0, none⟩)) rfl (by kernel_rfl) (by kernel_rfl) (by kernel_rfl) (by kernel_rfl) ?_
  refine wpL_move (.int .i64 (i : Int)) rfl (by kernel_rfl) (by kernel_rfl) (by kernel_rfl) (by kernel_rfl) ?_
  refine wpL_run1 (x := .tmp 7) (.int .i64 (i : Int)) (.int .i64 (k : Int)) (by kernel_rfl) (by kernel_rfl) (by kernel_rfl) (by kernel_rfl) (by kernel_rfl) (fun wx ρ hwx h0 hc => quo_eight rfl i hi1000 HK.out ρ wx h0 hc) ?_
  refine wpL_run1 (x := .tmp 6) (.pointer (some ⟨b, 0, none⟩)) (.pointer (some ⟨b, 0, none⟩)) (by kernel_rfl) (by kernel_rfl) (by kernel_rfl) (by kernel_rfl) (by kernel_rfl) (fun wx ρ hwx h0 hc => by simp [go_sem, h0, hc]) ?_
  refine wpL_run2 (x := .tmp 9) (y := .tmp 8) (.pointer (some ⟨b, 0, none⟩)) (.int .i64 (k : Int)) (.pointer (some ⟨b, k, none⟩)) (by kernel_rfl) (by kernel_rfl) (by kernel_rfl) (by kernel_rfl) (by kernel_rfl) (by kernel_rfl) (fun wx ρ hwx h0 h1 hc => Kec.idx25 rfl k hk25 b ρ wx h0 h1) ?_
  refine wpL_run1 (x := .tmp 10) (.pointer (some ⟨b, k, none⟩)) (.int .u64 z1.toNat) (by kernel_rfl) (by kernel_rfl) (by kernel_rfl) (by kernel_rfl) (by kernel_rfl) (fun wx ρ hwx h0 hc => Kec.load64 rfl ρ (HC1.out wx hwx) h0) ?_
  refine wpL_move (.int .u8 (c.toNat : Int)) rfl (by kernel_rfl) (by kernel_rfl) (by kernel_rfl) (by kernel_rfl) ?_
  refine wpL_run1 (x := .tmp 12) (.int .u8 (c.toNat : Int)) (.int .u64 (z2.toNat : Int)) (by kernel_rfl) (by kernel_rfl) (by kernel_rfl) (by kernel_rfl) (by kernel_rfl) (fun wx ρ hwx h0 hc => conv_8_64 rfl c HZ2.out ρ wx h0) ?_
  refine wpL_move (.int .i64 (i : Int)) rfl (by kernel_rfl) (by kernel_rfl) (by kernel_rfl) (by kernel_rfl) ?_
  refine wpL_run1 (x := .tmp 14) (.int .i64 (i : Int)) (.int .i64 (r : Int)) (by kernel_rfl) (by kernel_rfl) (by kernel_rfl) (by kernel_rfl) (by kernel_rfl) (fun wx ρ hwx h0 hc => rem_eight rfl i hi1000 HR.out ρ wx h0 hc) ?_
  refine wpL_run1 (x := .tmp 15) (.int .i64 (r : Int)) (.int .i64 (e : Int)) (by kernel_rfl) (by kernel_rfl) (by kernel_rfl) (by kernel_rfl) (by kernel_rfl) (fun wx ρ hwx h0 hc => mul_eight rfl r hr8 HE.out ρ wx h0 hc) ?_
  refine wpL_run2 (x := .tmp 13) (y := .tmp 16) (.int .u64 (z2.toNat : Int)) (.int .i64 (e : Int)) (.int .u64 (z3.toNat : Int)) (by kernel_rfl) (by kernel_rfl) (by kernel_rfl) (by kernel_rfl) (by kernel_rfl) (by kernel_rfl) (fun wx ρ hwx h0 h1 hc => shl64 rfl z2 e he64 HZ3.out ρ wx h0 h1) ?_
  refine wpL_run2 (x := .tmp 11) (y := .tmp 17) (.int .u64 z1.toNat) (.int .u64 (z3.toNat : Int)) (.int .u64 (z4.toNat : Int)) (by kernel_rfl) (by kernel_rfl) (by kernel_rfl) (by kernel_rfl) (by kernel_rfl) (by kernel_rfl) (fun wx ρ hwx h0 h1 hc => by simp [h0, h1, hc, go_sem, HX4.out]) ?_
  refine wpL_run1 (x := .tmp 6) (.pointer (some ⟨b, 0, none⟩)) (.pointer (some ⟨b, 0, none⟩)) (by kernel_rfl) (by kernel_rfl) (by kernel_rfl) (by kernel_rfl) (by kernel_rfl) (fun wx ρ hwx h0 hc => by simp [go_sem, h0, hc]) ?_
  refine wpL_run2 (x := .tmp 19) (y := .tmp 8) (.pointer (some ⟨b, 0, none⟩)) (.int .i64 (k : Int)) (.pointer (some ⟨b, k, none⟩)) (by kernel_rfl) (by kernel_rfl) (by kernel_rfl) (by kernel_rfl) (by kernel_rfl) (by kernel_rfl) (fun wx ρ hwx h0 h1 hc => Kec.idx25 rfl k hk25 b ρ wx h0 h1) ?_
  refine wpL_end (by kernel_rfl) (fun wd hwd => ?_)
  simp only [FinL, setL, List.set_cons_zero, List.set_cons_succ]
  intro _
  have cp := HC1.out wd hwd
  have fp := HF1.out wd hwd
  have HWD := Lib.hid hwd
  clear hwd HC1 HF1 HX4 HZ2 HZ3
  go_wp2
  go_end0
  exact ⟨rfl, wd, HWD.out, rfl⟩

set_option maxHeartbeats 800000 in
theorem frontK_any (s : KecM.St) (hs : s.length = 25) (w : World) : Calls Tryd.prog 18 #[.agg (s.map u64V).toArray] w fun e w' => e = .returned (.agg ((squeeze s).map byteV).toArray) ∧ Below w.heap.size w w' := by
  have SL := Lib.hid hs
  clear hs
  go_enter Tryd.func18, Tryd.ntmps18
  go_wp2
  have hst := A8.box (A8.box (A64.box (Own.St.start w) 41 s) 25 (List.replicate 32 0)) 25 (List.replicate 32 0)
  simp only [size_alloc'] at hst
  change Code.wp _ _ _ _ (((w.alloc (.cells (s.map u64V).toArray 41)).alloc (.cells ((List.replicate 32 (0 : UInt8)).map byteV).toArray 25)).alloc (.cells ((List.replicate 32 (0 : UInt8)).map byteV).toArray 25))
  generalize ((w.alloc (.cells (s.map u64V).toArray 41)).alloc (.cells ((List.replicate 32 (0 : UInt8)).map byteV).toArray 25)).alloc (.cells ((List.replicate 32 (0 : UInt8)).map byteV).toArray 25) = W1 at hst ⊢
  obtain ⟨bs, hbs⟩ : ∃ b, b = w.heap.size := ⟨_, rfl⟩
  obtain ⟨br, hbr⟩ : ∃ b, b = w.heap.size + 1 := ⟨_, rfl⟩
  obtain ⟨bd, hbd⟩ : ∃ b, b = w.heap.size + 1 + 1 := ⟨_, rfl⟩
  rw [← hbd, ← hbr] at hst ⊢
  have HD : Hid (Own.St w.heap.size w W1 [A8 bd 25 (sqTo s 0), A8 br 25 (List.replicate 32 0), A64 bs 41 s]) := by rw [hbs, sqTo_zero]; exact hst
  rw [← hbs]
  clear hst hbs hbr hbd
  go_loopw [5] (fun v wr => ∃ i : Nat, i ≤ 32 ∧ v = .int .i64 (i : Int) ∧ Own.St w.heap.size w wr [A8 bd 25 (sqTo s i), A8 br 25 (List.replicate 32 0), A64 bs 41 s]) (fun v _ => 32 - (intOf v).toNat)
  case atStart => exact ⟨0, Nat.zero_le _, rfl, HD.out⟩
  case round =>
    obtain ⟨i, hi32, rfl, G⟩ := hrel
    have G := Lib.hid G
    clear HD
    by_cases hi : (i : Int) < 32
    · have hin : i < 32 := by omega
      obtain ⟨q, hq⟩ : ∃ q, q = i / 8 := ⟨_, rfl⟩
      obtain ⟨r, hr⟩ : ∃ r, r = i % 8 := ⟨_, rfl⟩
      obtain ⟨e, he⟩ : ∃ e, e = 8 * r := ⟨_, rfl⟩
      have hqi : (i : Int) / 8 = (q : Int) := by omega
      have hri : (i : Int) % 8 = (r : Int) := by omega
      have hei : 8 * (r : Int) = (e : Int) := by omega
      have hq25 : (q : Int) < 25 := by omega
      have hr8 : r < 8 := by omega
      have he64 : e < 64 := by omega
      obtain ⟨z1, hz1⟩ : ∃ z, z = s.getD q 0 := ⟨_, rfl⟩
      obtain ⟨c, hc⟩ : ∃ c, c = SpoM.byteOf s i := ⟨_, rfl⟩
      have hz1b : z1.toNat < 18446744073709551616 := z1.isLt
      have hcv : ((z1.toNat : Int) / 2 ^ e) % 256 = (c.toNat : Int) := by
        rw [hc]
        unfold SpoM.byteOf
        rw [← hq, ← hr, ← he, ← hz1]
        simp
      have cz := (A64.cell G.out 2 rfl q (by rw [SL.out]; omega) hz1.symm).1
      obtain ⟨cd, fd⟩ := A8.cell G.out 0 rfl i (by rw [sqTo_len]; exact hin)
      have PUT : Hid (Own.St w.heap.size w (wr.setCell ⟨bd, i, none⟩ (.int .u8 (c.toNat : Int))) [A8 bd 25 (sqTo s (i + 1)), A8 br 25 (List.replicate 32 0), A64 bs 41 s]) := by
        have h := A8.store G.out 0 rfl i c
        rw [hc, sqTo_set] at h
        rw [hc]
        exact h
      clear hq hr he hz1 hc G
      go_wp2
      go_roundw
      case rel => exact ⟨i + 1, by omega, by go_num, PUT.out⟩
      case measure => simp [intOf]; omega
    · obtain ⟨rs, hrs⟩ : ∃ r, r = squeeze s := ⟨_, rfl⟩
      have LR : Hid (rs.length = 32) := by rw [hrs]; exact squeeze_len _
      have H5 : Hid (Own.St w.heap.size w wr [A8 bd 25 rs, A8 br 25 (List.replicate 32 0), A64 bs 41 s]) := by
        have h := G.out
        rw [show i = 32 by omega, sqTo_all, ← hrs] at h
        exact h
      have HRS := Lib.hid hrs
      clear hrs G hi32
      have LAST := Lib.hid (A8.setAll H5.out 1 rfl rs (by rw [LR.out]; rfl))
      have ROW := Lib.hid (A8.row H5.out 0 rfl)
      have THERE := Lib.hid (A8.there H5.out 1 rfl rs (by rw [LR.out]; rfl))
      have INFO2 := Lib.hid (info_sum rs LR.out)
      have ONE := Lib.hid (one8 rs)
      go_wp2_with (first
        | (refine wpList_load_row rfl 25 (.tmp 3) rfl bd rfl 25 _ (0, 0) _ ROW.out Tryd.underlying25 rfl INFO2.out ?_)
        | (refine wpList_store_mid rfl 25 (.tmp 2) (.tmp 20) rfl br 0 (rs.map byteV).toArray rfl rfl THERE.out INFO2.out ONE.out ?_))
      have END := Lib.hid (A8.row LAST.out 1 rfl)
      refine bodyPost_ret (results_cell_row rfl _ _ br 25 _ (0, 0) _ rfl END.out Tryd.underlying25 rfl INFO2.out) rfl ?_
      refine ⟨?_, LAST.out.below⟩
      rw [HRS.out]
end Spo
end Go.Proofs.YtfbpajiddkehnaaDoor
