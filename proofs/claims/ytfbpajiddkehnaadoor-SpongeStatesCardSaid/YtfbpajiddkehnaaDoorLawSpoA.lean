/- SpongeApart: the walk. -/
import Derived.Test.YtfbpajiddkehnaaDoorLawSpo
namespace Go.Proofs.YtfbpajiddkehnaaDoor
open Go.RowKit Go.Own
namespace Spo
open Go.KecM Go.SpoM Byt

/-- a fingerprint of one part, from its slice in a block of its own -/
theorem all_one {w : World} (K : Kept w) {a : Option Addr} {l : List UInt8} {n c : Nat} (hv : ∀ wx, Below w.heap.size w wx → View wx (fun k => k < wx.heap.size) a l) (hn : l.length = n) (h1 : n ≤ c) (h2 : c ≤ maxLen) (h3 : a = none → c = 0) (hb : n ≤ 10000000) {S : List UInt8} (hS : S = sha l) :
    ∀ wx, Below w.heap.size w wx → Calls Tryd.prog 9 #[.slice (some ⟨wx.heap.size, 0, none⟩) 1 1] (wx.alloc (.cells #[.slice a n c] 22)) fun e w' => e = .returned (.agg (S.map byteV).toArray) ∧ Below wx.heap.size wx w' := by
  intro wx hwx
  have hp := parts_one (hv wx hwx) hn h1 h2 h3 22
  have hbb : Below w.heap.size w (wx.alloc (.cells #[.slice a n c] 22)) := hwx.trans (((Own.St.start wx).alloc _).below.mono hwx.size)
  have h := K.all _ _ _ hbb hp (by simp only [List.flatten_cons, List.flatten_nil, List.append_nil]; omega) (by simp)
  simp only [List.flatten_cons, List.flatten_nil, List.append_nil] at h
  exact h.mono fun e w' ⟨he, hb'⟩ => ⟨by rw [he, hS], ((Own.St.start wx).alloc _).below.trans (hb'.mono (by simp))⟩

set_option maxHeartbeats 1600000 in
theorem walk_apart (a0 : Option Addr) (len0 cap0 : Nat) (x0 : List UInt8) (a1 : Option Addr) (len1 cap1 : Nat) (x1 : List UInt8) {w : World} (w0 : inBytes x0 w.heap.size w [.slice a0 len0 cap0]) (w1 : inBytes x1 w.heap.size w [.slice a1 len1 cap1]) (K : Kept w) :
    Calls Tryd.prog 6 #[.slice a0 len0 cap0, .slice a1 len1 cap1] w (RetYes w) := by
  obtain ⟨x, hx⟩ : ∃ x, x = fw x0 := ⟨_, rfl⟩
  obtain ⟨y, hy⟩ : ∃ y, y = fw x1 := ⟨_, rfl⟩
  obtain ⟨m, hm⟩ : ∃ m, x.length = m := ⟨_, rfl⟩
  obtain ⟨n, hn⟩ : ∃ n, y.length = n := ⟨_, rfl⟩
  have hmb : m ≤ 20000 := by rw [← hm, hx, fw_len]; omega
  have hnb : n ≤ 20000 := by rw [← hn, hy, fw_len]; omega
  obtain ⟨hl0, hc01, hc02, hc03, hv0⟩ := in_bytes w0
  obtain ⟨hl1, hc11, hc12, hc13, hv1⟩ := in_bytes w1
  have hmc : m ≤ cap0 := by rw [← hm, hx, fw_len]; omega
  have hnc : n ≤ cap1 := by rw [← hn, hy, fw_len]; omega
  have HF0 := Lib.hid (fun (w2 : World) => few_in (w := w2) w0 (hx ▸ hm))
  have HF1 := Lib.hid (fun (w2 : World) => few_in (w := w2) w1 (hy ▸ hn))
  have VX : Hid (View w (fun k => k < w.heap.size) a0 x) := by show View w _ a0 x; rw [hx]; exact vtake hv0 20000
  have VY : Hid (View w (fun k => k < w.heap.size) a1 y) := by show View w _ a1 y; rw [hy]; exact vtake hv1 20000
  have H03 : Hid (a0 = none → cap0 = 0) := fun h => (hc03 h).2
  have H13 : Hid (a1 = none → cap1 = 0) := fun h => (hc13 h).2
  have HC02 := Lib.hid hc02
  have HC12 := Lib.hid hc12
  have HM := Lib.hid hm
  have HN := Lib.hid hn
  obtain ⟨h, hh⟩ : ∃ h, h = m / 2 := ⟨_, rfl⟩
  have hhi : (m : Int) / 2 = (h : Int) := by omega
  have hhm : h ≤ m := by omega
  have T := Lib.hid (cutTo h hm hhm hmc hc02 H03.out)
  obtain ⟨a2, c2, run2, cut2⟩ := cutFrom h hm hhm hmc hc02 H03.out
  have R2 := Lib.hid run2
  have T2 := Lib.hid cut2
  obtain ⟨SX, hSX⟩ : ∃ l, l = sha x := ⟨_, rfl⟩
  obtain ⟨SY, hSY⟩ : ∃ l, l = sha y := ⟨_, rfl⟩
  have LX : Hid (SX.length = 32) := by rw [hSX]; exact sha_len _
  have LY : Hid (SY.length = 32) := by rw [hSY]; exact sha_len _
  have CX := Lib.hid (all_one K (view_in VX.out) hm hmc hc02 H03.out (by omega) hSX)
  have CY := Lib.hid (all_one K (view_in VY.out) hn hnc hc12 H13.out (by omega) hSY)
  have SH := Lib.hid (shown_any K)
  have HSX := Lib.hid hSX
  have HSY := Lib.hid hSY
  have HX2 : Hid (([] ++ x.take h) ++ x.drop h = x) := by show ([] ++ x.take h) ++ x.drop h = x; rw [List.nil_append, List.take_append_drop]
  have HMC := Lib.hid hmc
  have HNC := Lib.hid hnc
  clear hx hy hm hn hl0 hl1 hc01 hc02 hc03 hc11 hc12 hc13 hv0 hv1 hmc hnc w0 w1 run2 cut2 hSX hSY hh
  go_enter Tryd.func6, Tryd.ntmps6
  go_wp2_with (fail)
  refine SH.out.mono ?_
  rintro e wa ⟨rfl, hwa⟩
  have B1 := Lib.hid ((Own.St.start w).later hwa)
  clear hwa
  go_wp2_with (fail)
  refine (new_st K B1.out).mono ?_
  rintro e wb ⟨p, rfl, hb⟩
  have B2 := Lib.hid hb
  clear hb B1
  go_wp2_with (fail)
  refine (new_st K B2.out).mono ?_
  rintro e wc ⟨q, rfl, hc⟩
  have B3 := Lib.hid hc
  clear hc B2
  go_wp2_with (fail)
  refine (HF0.out wc).mono ?_
  rintro e wd ⟨rfl, rfl⟩
  go_wp2_with (fail)
  refine (HF1.out wc).mono ?_
  rintro e wd ⟨rfl, rfl⟩
  go_wp2_with (refine wpList_val rfl (T.out.1 _ _ _ rfl _ _ rfl rfl) ?_)
  refine (write_old K B3.out 1 rfl (T.out.2.view _ _ (View.below VX.out B3.out.below)) T.out.2.len T.out.2.cap.1 T.out.2.cap.2 T.out.2.none (by simp only [List.length_nil]; omega)).mono ?_
  rintro e wd ⟨rfl, hd⟩
  have B4 := Lib.hid hd
  clear hd B3
  go_wp2_with (fail)
  refine (write_old K B4.out 0 rfl (View.below VY.out B4.out.below) HN.out HNC.out HC12.out H13.out (by simp only [List.length_nil]; omega)).mono ?_
  rintro e we ⟨rfl, he⟩
  have B5 := Lib.hid he
  clear he B4
  go_wp2_with (refine wpList_val rfl (R2.out _ _ _ rfl _ _ rfl rfl) ?_)
  refine (write_old K B5.out 1 rfl (T2.out.view _ _ (View.below VX.out B5.out.below)) T2.out.len T2.out.cap.1 T2.out.cap.2 T2.out.none (by rw [List.nil_append, List.length_take]; omega)).mono ?_
  rintro e wf ⟨rfl, hf⟩
  have B6 : Hid (Own.St w.heap.size w wf [K.A q y, K.A p x]) := by
    have h := hf
    simp only [List.set_cons_zero, List.set_cons_succ] at h
    rw [HX2.out, List.nil_append] at h
    exact h
  clear hf B5
  go_wp2_with (fail)
  refine (sum_st K B6.out 1 rfl (by rw [HM.out]; omega)).mono ?_
  rintro e wg ⟨rfl, hg⟩
  have B7 := Lib.hid (B6.out.later hg)
  clear hg B6
  have e1 : sumV x = .agg (SX.map byteV).toArray := by rw [HSX.out]
  rw [e1]
  clear e1
  go_wp2_with (fail)
  refine (CX.out wg B7.out.below).mono ?_
  rintro e wh ⟨rfl, hh⟩
  have B8 := Lib.hid (B7.out.later hh)
  clear hh B7
  go_wp2_with (refine wpList_eql_sum rfl 43 46 rfl LX.out LX.out (decide_eq_true rfl) rfl rfl ?_)
  refine (sum_st K B8.out 0 rfl (by rw [HN.out]; omega)).mono ?_
  rintro e wi ⟨rfl, hi⟩
  have B9 := Lib.hid (B8.out.later hi)
  clear hi B8
  have e1 : sumV y = .agg (SY.map byteV).toArray := by rw [HSY.out]
  rw [e1]
  clear e1
  go_wp2_with (fail)
  refine (CY.out wi B9.out.below).mono ?_
  rintro e wj ⟨rfl, hj⟩
  have B10 := Lib.hid (B9.out.later hj)
  clear hj B9
  go_wp2_with (refine wpList_eql_sum rfl 51 54 rfl LY.out LY.out (decide_eq_true rfl) rfl rfl ?_)
  go_ret
  exact ⟨rfl, B10.out.below⟩

end Spo
end Go.Proofs.YtfbpajiddkehnaaDoor
