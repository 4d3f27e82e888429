/- LzBack, LzKinds: the walks. -/
import Derived.Test.YthmnaofmpijbiaaLawLz
namespace Go.Proofs.Ythmnaofmpijbiaa
open Go.RowKit Go.Own
namespace Lz
open Go.MatM Go.LzM Byt

set_option maxHeartbeats 4000000 in
theorem walk_back (a0 : Option Addr) (len0 cap0 : Nat) (x0 : Bs) {w : World} (w0 : inBytes x0 w.heap.size w [.slice a0 len0 cap0]) (K : Kept w) :
    Calls Try.prog 5 #[.slice a0 len0 cap0] w (RetYes w) := by
  have G := in_given w0
  obtain ⟨m, hm⟩ : ∃ m, m = min len0 3000 := ⟨_, rfl⟩
  have hmin : min (len0 : Int) 3000 = (m : Int) := by omega
  have hmn : m ≤ len0 := by omega
  have hmb : m ≤ 3000 := by omega
  have g := given_take G m hmn
  obtain ⟨x, hx⟩ : ∃ x, x = x0.take m := ⟨_, rfl⟩
  rw [← hx] at g
  have GX := Lib.hid g
  obtain ⟨p, hp⟩ : ∃ p, pack x = p := ⟨_, rfl⟩
  obtain ⟨j, hj⟩ : ∃ j, p.length = j := ⟨_, rfl⟩
  have hjm : j ≤ m + 1 := by have h := pack_len x; rw [hp, hj, g.size] at h; exact h
  have hU : ∀ t : Nat, unpack p t = if t < m then ([], 4) else (x, 0) := by intro t; rw [← hp, unpack_pack, g.size]
  have C1 : Hid (∀ (ao : Option Addr) (c : Nat) wx, Below w.heap.size w wx → Given wx ao m c x → Calls Try.prog 10 #[.slice ao m c] wx fun e w' => ∃ a c, e = .returned (.slice a j c) ∧ Given w' a j c p ∧ Below wx.heap.size wx w') :=
    fun ao c wx hwx h => pack_st K hwx h (by omega) hp hj
  have C2 : Hid (∀ (ao : Option Addr) (c : Nat) wx, Below w.heap.size w wx → Given wx ao j c p → Calls Try.prog 13 #[.slice ao j c, .int .i64 (m : Int)] wx fun e w' => ∃ a c, e = .returned (.tuple #[.slice a m c, .int .i64 0]) ∧ Given w' a m c x ∧ Below wx.heap.size wx w') :=
    fun ao c wx hwx h => unpack_st K hwx h (by omega) (by omega) (by omega) (k := 0) (by rw [Int.toNat_natCast, hU, if_neg (Nat.lt_irrefl _)]) g.size
  obtain ⟨n2, k2, h2⟩ : ∃ n2 k2 : Nat, (m = 0 ∧ n2 = 0 ∧ k2 = 0 ∨ m ≠ 0 ∧ n2 = 0 ∧ k2 = 4) := by
    by_cases h : m = 0
    · exact ⟨0, 0, .inl ⟨h, rfl, rfl⟩⟩
    · exact ⟨0, 4, .inr ⟨h, rfl, rfl⟩⟩
  obtain ⟨r2, hr2⟩ : ∃ r2 : Bs, r2.length = n2 ∧ unpack p ((m : Int) - 1).toNat = (r2, k2) := by
    rcases h2 with ⟨ha, hb, hc⟩ | ⟨ha, hb, hc⟩
    · refine ⟨x, by rw [g.size]; omega, ?_⟩
      rw [hU, if_neg (by omega), hc]
    · refine ⟨[], hb.symm, ?_⟩
      rw [hU, if_pos (by omega), hc]
  have C3 : Hid (∀ (ao : Option Addr) (c : Nat) wx, Below w.heap.size w wx → Given wx ao j c p → Calls Try.prog 13 #[.slice ao j c, .int .i64 ((m : Int) - 1)] wx fun e w' => ∃ a c, e = .returned (.tuple #[.slice a n2 c, .int .i64 (k2 : Int)]) ∧ Given w' a n2 c r2 ∧ Below wx.heap.size wx w') :=
    fun ao c wx hwx h => unpack_st K hwx h (by omega) (by omega) (by omega) hr2.2 hr2.1
  have SH := Lib.hid (shown_any K)
  have hCT := cutTo (ao := a0) (l := x0) (m := len0) (cap := cap0) m G.size hmn G.room.1 G.room.2 G.nil
  have CT := Lib.hid hCT.1
  have hc1 : ((m : Int) == 0) = ((k2 : Int) == 0) := by
    rcases h2 with ⟨ha, hb, hc⟩ | ⟨ha, hb, hc⟩
    · rw [ha, hc]
    · rw [hc]; simp [ha]
  have hc2 : ((k2 : Int) == 0) = false → ((k2 : Int) == 4) = true := by
    rcases h2 with ⟨ha, hb, hc⟩ | ⟨ha, hb, hc⟩
    · rw [hc]; simp
    · rw [hc]; simp
  clear hCT hm hx hp hj G g w0 K hU h2 hr2
  go_enter Try.func5, Try.ntmps5
  go_wp2_with (fail)
  refine SH.out.mono ?_
  rintro e w1 ⟨rfl, h1⟩
  have B1 := Lib.hid ((Own.St.start w).later h1)
  clear h1
  have BE := Lib.hid (ab_empty B1.out)
  have HC := Lib.hid (vcells (GX.out.later BE.out.below).view)
  have HNO := Lib.hid (given_nil GX.out)
  go_wp2_with (first
    | (refine Byt.wpList_val rfl (CT.out _ (.tmp 13) (.tmp 16) rfl _ _ rfl rfl) ?_)
    | (at_builtin; refine Byt.wpList_ab_append rfl (.tmp 18) (.tmp 19) rfl BE.out 0 rfl rfl a0 m cap0 x rfl HNO.out GX.out.size HC.out (by omega) ?_; intro a2 c2 wb hb'; simp only [Nat.zero_add, List.nil_append, List.set_cons_zero] at hb'; have H2 := Lib.hid hb'; clear hb'))
  refine (C1.out a2 c2 wb H2.out.below (given_own H2.out 0 rfl)).mono ?_
  rintro e w3 ⟨ap, cp, rfl, g3, h3⟩
  have H3 := Lib.hid (H2.out.later h3)
  have P3 := Lib.hid g3
  have O3 := Lib.hid (given_own H3.out 0 rfl)
  have X3 := Lib.hid (GX.out.later H3.out.below)
  clear h3 g3 BE HC HNO
  go_wp2_with (first
    | (refine wpList_str8 rfl (.tmp 23) rfl a2 m c2 rfl _ x O3.out.view O3.out.size ?_)
    | (refine wpList_str8 rfl (.tmp 25) rfl a0 m cap0 rfl _ x X3.out.view X3.out.size ?_))
  refine (C2.out ap cp w3 H3.out.below P3.out).mono ?_
  rintro e w4 ⟨ay, cy, rfl, g4, h4⟩
  have H4 := Lib.hid (H3.out.later h4)
  have P4 := Lib.hid (P3.out.later h4)
  have Y4 := Lib.hid g4
  clear h4 g4
  go_wp2_with (fail)
  refine (C3.out ap cp w4 H4.out.below P4.out).mono ?_
  rintro e w5 ⟨az, cz, rfl, _, h5⟩
  have H5 := Lib.hid (H4.out.later h5)
  have Y5 := Lib.hid (Y4.out.later h5)
  have X5 := Lib.hid (GX.out.later H5.out.below)
  clear h5
  have hjm2 : (j : Int) ≤ (m : Int) + 1 := by omega
  obtain ⟨bb, hbb⟩ : ∃ b, b = ((k2 : Int) == 0) := ⟨_, rfl⟩
  rw [← hbb] at hc1 hc2
  have hbb2 := hbb.symm
  clear hbb
  cases bb with
  | true =>
    clear hc2
    go_wp2_with (first
      | (refine wpList_str8 rfl (.tmp 52) rfl ay m cy rfl _ x Y5.out.view Y5.out.size ?_)
      | (refine wpList_str8 rfl (.tmp 54) rfl a0 m cap0 rfl _ x X5.out.view X5.out.size ?_))
    go_ret
    exact ⟨rfl, H5.out.below⟩
  | false =>
    have hc3 := hc2 rfl
    clear hc2
    go_wp2_with (first
      | (refine wpList_str8 rfl (.tmp 52) rfl ay m cy rfl _ x Y5.out.view Y5.out.size ?_)
      | (refine wpList_str8 rfl (.tmp 54) rfl a0 m cap0 rfl _ x X5.out.view X5.out.size ?_))
    go_ret
    exact ⟨rfl, H5.out.below⟩

set_option maxHeartbeats 4000000 in
theorem walk_kinds (a0 : Option Addr) (len0 cap0 : Nat) (x0 : Bs) {w : World} (w0 : inBytes x0 w.heap.size w [.slice a0 len0 cap0]) (K : Kept w) :
    Calls Try.prog 8 #[.slice a0 len0 cap0] w (RetYes w) := by
  have G := in_given w0
  obtain ⟨m, hm⟩ : ∃ m, m = min len0 3000 := ⟨_, rfl⟩
  have hmin : min (len0 : Int) 3000 = (m : Int) := by omega
  have hmn : m ≤ len0 := by omega
  have hmb : m ≤ 3000 := by omega
  have g := given_take G m hmn
  obtain ⟨x, hx⟩ : ∃ x, x = x0.take m := ⟨_, rfl⟩
  rw [← hx] at g
  have GX := Lib.hid g
  obtain ⟨p, hp⟩ : ∃ p, pack x = p := ⟨_, rfl⟩
  obtain ⟨j, hj⟩ : ∃ j, p.length = j := ⟨_, rfl⟩
  have HK := Lib.hid (pack_kinds x)
  rw [hp] at HK
  have hj0 : 0 < j := by
    rw [← hj]
    rcases HK.out with ⟨l, h, _⟩ | h
    · rw [h]; simp
    · rw [h]; simp
  have C1 : Hid (∀ wx, Below w.heap.size w wx → Calls Try.prog 10 #[.slice a0 m cap0] wx fun e w' => ∃ a c, e = .returned (.slice a j c) ∧ Given w' a j c p ∧ Below wx.heap.size wx w') :=
    fun wx hwx => pack_st K hwx (g.later hwx) (by omega) hp hj
  have SH := Lib.hid (shown_any K)
  have hCT := cutTo (ao := a0) (l := x0) (m := len0) (cap := cap0) m G.size hmn G.room.1 G.room.2 G.nil
  have CT := Lib.hid hCT.1
  have HJ := Lib.hid hj
  clear hCT hm hx hp hj G g w0 K
  go_enter Try.func8, Try.ntmps8
  go_wp2_with (fail)
  refine SH.out.mono ?_
  rintro e w1 ⟨rfl, h1⟩
  have B1 := Lib.hid ((Own.St.start w).later h1)
  clear h1
  go_wp2_with (refine Byt.wpList_val rfl (CT.out _ (.tmp 7) (.tmp 10) rfl _ _ rfl rfl) ?_)
  refine (C1.out w1 B1.out.below).mono ?_
  rintro e w2 ⟨ap, cp, rfl, g2, h2⟩
  have H2 := Lib.hid (B1.out.later h2)
  have P2 := Lib.hid g2
  have X2 := Lib.hid (GX.out.later H2.out.below)
  clear h2 g2
  obtain ⟨b, o, rfl, _, _, hcell⟩ := vat P2.out.view (k := 0) (by rw [P2.out.size]; exact hj0)
  rw [Nat.add_zero] at hcell
  have hjz : ((j : Int) == 0) = false := by simp; omega
  rcases HK.out with ⟨l, hpl, hll⟩ | hpl
  · rw [hpl] at hcell
    have hcell1 : w2.cell? ⟨b, o, none⟩ = some (.int .u8 1) := hcell
    have HCC : Hid (∀ wx, Below w2.heap.size w2 wx → wx.cell? ⟨b, o, none⟩ = some (.int .u8 1)) := fun wx hwx => cellLater hcell1 hwx
    have hjm : (j : Int) ≤ (m : Int) := by
      have h := HJ.out
      rw [hpl, List.length_cons] at h
      have h2 := GX.out.size
      omega
    clear hcell hpl hll
    go_wp2_with (fail)
    refine wp_lax_list (by kernel_rfl) (by kernel_rfl) (by kernel_rfl) ?_
    refine wpL_move (.bool true) rfl (by kernel_rfl) (by kernel_rfl) (by kernel_rfl) (by kernel_rfl) ?_
    refine wpL_move (.bool true) rfl (by kernel_rfl) (by kernel_rfl) (by kernel_rfl) (by kernel_rfl) ?_
    refine wpL_move (.slice (some ⟨b, o, none⟩) j cp) rfl (by kernel_rfl) (by kernel_rfl) (by kernel_rfl) (by kernel_rfl) ?_
    refine wpL_run1 (x := .tmp 25) (.slice (some ⟨b, o, none⟩) j cp) (.pointer (some ⟨b, o, none⟩)) (by kernel_rfl) (by kernel_rfl) (by kernel_rfl) (by kernel_rfl) (by kernel_rfl) (fun wx ρ hwx h0 hc => idx_zero rfl hj0 ρ wx h0 (hc _)) ?_
    refine wpL_run1 (x := .tmp 26) (.pointer (some ⟨b, o, none⟩)) (.int .u8 1) (by kernel_rfl) (by kernel_rfl) (by kernel_rfl) (by kernel_rfl) (by kernel_rfl) (fun wx ρ hwx h0 hc => load_u8 rfl ρ (HCC.out wx hwx) h0) ?_
    refine wpL_run1 (x := .tmp 27) (.int .u8 1) (.bool false) (by kernel_rfl) (by kernel_rfl) (by kernel_rfl) (by kernel_rfl) (by kernel_rfl) (fun wx ρ hwx h0 hc => by simp [go_sem, h0, hc]) ?_
    refine wpL_move (.bool false) rfl (by kernel_rfl) (by kernel_rfl) (by kernel_rfl) (by kernel_rfl) ?_
    refine wpL_skip (by kernel_rfl) (by kernel_rfl) ?_
    refine wpL_skip (by kernel_rfl) (by kernel_rfl) ?_
    refine wpL_skip (by kernel_rfl) (by kernel_rfl) ?_
    refine wpL_skip (by kernel_rfl) (by kernel_rfl) ?_
    refine wpL_skip (by kernel_rfl) (by kernel_rfl) ?_
    refine wpL_skip (by kernel_rfl) (by kernel_rfl) ?_
    refine wpL_run1 (x := .tmp 29) (.bool false) (.bool false) (by kernel_rfl) (by kernel_rfl) (by kernel_rfl) (by kernel_rfl) (by kernel_rfl) (fun wx ρ hwx h0 hc => by simp [go_sem, h0, hc]) ?_
    refine wpL_move (.bool false) rfl (by kernel_rfl) (by kernel_rfl) (by kernel_rfl) (by kernel_rfl) ?_
    refine wpL_move (.slice (some ⟨b, o, none⟩) j cp) rfl (by kernel_rfl) (by kernel_rfl) (by kernel_rfl) (by kernel_rfl) ?_
    refine wpL_run1 (x := .tmp 38) (.slice (some ⟨b, o, none⟩) j cp) (.pointer (some ⟨b, o, none⟩)) (by kernel_rfl) (by kernel_rfl) (by kernel_rfl) (by kernel_rfl) (by kernel_rfl) (fun wx ρ hwx h0 hc => idx_zero rfl hj0 ρ wx h0 (hc _)) ?_
    refine wpL_run1 (x := .tmp 39) (.pointer (some ⟨b, o, none⟩)) (.int .u8 1) (by kernel_rfl) (by kernel_rfl) (by kernel_rfl) (by kernel_rfl) (by kernel_rfl) (fun wx ρ hwx h0 hc => load_u8 rfl ρ (HCC.out wx hwx) h0) ?_
    refine wpL_run1 (x := .tmp 40) (.int .u8 1) (.bool true) (by kernel_rfl) (by kernel_rfl) (by kernel_rfl) (by kernel_rfl) (by kernel_rfl) (fun wx ρ hwx h0 hc => by simp [go_sem, h0, hc]) ?_
    refine wpL_move (.bool true) rfl (by kernel_rfl) (by kernel_rfl) (by kernel_rfl) (by kernel_rfl) ?_
    refine wpL_move (.slice (some ⟨b, o, none⟩) j cp) rfl (by kernel_rfl) (by kernel_rfl) (by kernel_rfl) (by kernel_rfl) ?_
    refine wpL_run1 (x := .tmp 43) (.slice (some ⟨b, o, none⟩) j cp) (.int .i64 (j : Int)) (by kernel_rfl) (by kernel_rfl) (by kernel_rfl) (by kernel_rfl) (by kernel_rfl) (fun wx ρ hwx h0 hc => by simp [go_sem, h0, hc]) ?_
    refine wpL_move (.slice a0 m cap0) rfl (by kernel_rfl) (by kernel_rfl) (by kernel_rfl) (by kernel_rfl) ?_
    refine wpL_run1 (x := .tmp 45) (.slice a0 m cap0) (.int .i64 (m : Int)) (by kernel_rfl) (by kernel_rfl) (by kernel_rfl) (by kernel_rfl) (by kernel_rfl) (fun wx ρ hwx h0 hc => by simp [go_sem, h0, hc]) ?_
    refine wpL_run2 (x := .tmp 44) (y := .tmp 46) (.int .i64 (j : Int)) (.int .i64 (m : Int)) (.bool true) (by kernel_rfl) (by kernel_rfl) (by kernel_rfl) (by kernel_rfl) (by kernel_rfl) (by kernel_rfl) (fun wx ρ hwx h0 h1 hc => by simp [h0, h1, hc, go_sem]; omega) ?_
    refine wpL_run2 (x := .tmp 42) (y := .tmp 47) (.bool true) (.bool true) (.bool true) (by kernel_rfl) (by kernel_rfl) (by kernel_rfl) (by kernel_rfl) (by kernel_rfl) (by kernel_rfl) (fun wx ρ hwx h0 h1 hc => by simp [go_sem, h0, h1]) ?_
    refine wpL_run2 (x := .tmp 37) (y := .tmp 48) (.bool false) (.bool true) (.bool true) (by kernel_rfl) (by kernel_rfl) (by kernel_rfl) (by kernel_rfl) (by kernel_rfl) (by kernel_rfl) (fun wx ρ hwx h0 h1 hc => by simp [go_sem, h0, h1]) ?_
    refine wpL_run2 (x := .tmp 24) (y := .tmp 49) (.bool true) (.bool true) (.bool true) (by kernel_rfl) (by kernel_rfl) (by kernel_rfl) (by kernel_rfl) (by kernel_rfl) (by kernel_rfl) (fun wx ρ hwx h0 h1 hc => by simp [go_sem, h0, h1]) ?_
    refine wpL_assign (.bool true) rfl (by kernel_rfl) (by kernel_rfl) (by kernel_rfl) (by kernel_rfl) ?_
    refine wpL_end (by kernel_rfl) (fun wd hwd => ?_)
    simp only [FinL, setL, List.set_cons_zero, List.set_cons_succ]
    have H9 := Lib.hid (H2.out.later hwd)
    clear hwd
    go_wp2
    go_ret
    exact ⟨rfl, H9.out.below⟩
  · rw [hpl] at hcell
    have hcell1 : w2.cell? ⟨b, o, none⟩ = some (.int .u8 0) := hcell
    have HCC : Hid (∀ wx, Below w2.heap.size w2 wx → wx.cell? ⟨b, o, none⟩ = some (.int .u8 0)) := fun wx hwx => cellLater hcell1 hwx
    have hjm : j = m + 1 := by
      have h := HJ.out
      rw [hpl, List.length_cons, GX.out.size] at h
      exact h.symm
    obtain ⟨ar, cr, hc1, hc2⟩ := cutFrom (ao := some ⟨b, o, none⟩) (l := p) (m := j) (cap := cp) 1 P2.out.size (by omega) P2.out.room.1 P2.out.room.2 P2.out.nil
    rw [show j - 1 = m by omega, hpl] at hc2
    rw [show j - 1 = m by omega] at hc1
    have HCUT := Lib.hid hc1
    have HV1 : Hid (∀ wx, Below w2.heap.size w2 wx → (convert 22 9 (.slice ar m cr)).run Try.prog wx = .ok (.string (strB x)) wx) := fun wx hwx => by
      have gv : Given wx ar m cr x := ⟨hc2.view _ _ (by rw [← hpl]; exact (P2.out.later hwx).view), hc2.len, hc2.cap, hc2.none⟩
      exact given_str gv
    have HV2 : Hid (∀ wx, Below w2.heap.size w2 wx → (convert 22 9 (.slice a0 m cap0)).run Try.prog wx = .ok (.string (strB x)) wx) := fun wx hwx => given_str (X2.out.later hwx)
    clear hcell hpl hc1 hc2 hjm
    go_wp2_with (fail)
    refine wp_lax_list (by kernel_rfl) (by kernel_rfl) (by kernel_rfl) ?_
    refine wpL_move (.bool true) rfl (by kernel_rfl) (by kernel_rfl) (by kernel_rfl) (by kernel_rfl) ?_
    refine wpL_move (.bool true) rfl (by kernel_rfl) (by kernel_rfl) (by kernel_rfl) (by kernel_rfl) ?_
    refine wpL_move (.slice (some ⟨b, o, none⟩) j cp) rfl (by kernel_rfl) (by kernel_rfl) (by kernel_rfl) (by kernel_rfl) ?_
    refine wpL_run1 (x := .tmp 25) (.slice (some ⟨b, o, none⟩) j cp) (.pointer (some ⟨b, o, none⟩)) (by kernel_rfl) (by kernel_rfl) (by kernel_rfl) (by kernel_rfl) (by kernel_rfl) (fun wx ρ hwx h0 hc => idx_zero rfl hj0 ρ wx h0 (hc _)) ?_
    refine wpL_run1 (x := .tmp 26) (.pointer (some ⟨b, o, none⟩)) (.int .u8 0) (by kernel_rfl) (by kernel_rfl) (by kernel_rfl) (by kernel_rfl) (by kernel_rfl) (fun wx ρ hwx h0 hc => load_u8 rfl ρ (HCC.out wx hwx) h0) ?_
    refine wpL_run1 (x := .tmp 27) (.int .u8 0) (.bool true) (by kernel_rfl) (by kernel_rfl) (by kernel_rfl) (by kernel_rfl) (by kernel_rfl) (fun wx ρ hwx h0 hc => by simp [go_sem, h0, hc]) ?_
    refine wpL_move (.bool true) rfl (by kernel_rfl) (by kernel_rfl) (by kernel_rfl) (by kernel_rfl) ?_
    refine wpL_move (.slice (some ⟨b, o, none⟩) j cp) rfl (by kernel_rfl) (by kernel_rfl) (by kernel_rfl) (by kernel_rfl) ?_
    refine wpL_run1 (x := .tmp 30) (.slice (some ⟨b, o, none⟩) j cp) (.slice ar m cr) (by kernel_rfl) (by kernel_rfl) (by kernel_rfl) (by kernel_rfl) (by kernel_rfl) (fun wx ρ hwx h0 hc => HCUT.out _ _ _ rfl ρ wx h0 (hc _)) ?_
    refine wpL_convK (.slice ar m cr) (.string (strB x)) rfl (by kernel_rfl) (by kernel_rfl) (by kernel_rfl) (by kernel_rfl) (fun wx hwx => HV1.out wx hwx) ?_
    refine wpL_move (.slice a0 m cap0) rfl (by kernel_rfl) (by kernel_rfl) (by kernel_rfl) (by kernel_rfl) ?_
    refine wpL_convK (.slice a0 m cap0) (.string (strB x)) rfl (by kernel_rfl) (by kernel_rfl) (by kernel_rfl) (by kernel_rfl) (fun wx hwx => HV2.out wx hwx) ?_
    refine wpL_run2 (x := .tmp 32) (y := .tmp 34) (.string (strB x)) (.string (strB x)) (.bool true) (by kernel_rfl) (by kernel_rfl) (by kernel_rfl) (by kernel_rfl) (by kernel_rfl) (by kernel_rfl) (fun wx ρ hwx h0 h1 hc => by simp [go_sem, h0, h1, hc]) ?_
    refine wpL_run2 (x := .tmp 29) (y := .tmp 35) (.bool true) (.bool true) (.bool true) (by kernel_rfl) (by kernel_rfl) (by kernel_rfl) (by kernel_rfl) (by kernel_rfl) (by kernel_rfl) (fun wx ρ hwx h0 h1 hc => by simp [go_sem, h0, h1]) ?_
    refine wpL_move (.bool true) rfl (by kernel_rfl) (by kernel_rfl) (by kernel_rfl) (by kernel_rfl) ?_
    refine wpL_skip (by kernel_rfl) (by kernel_rfl) ?_
    refine wpL_skip (by kernel_rfl) (by kernel_rfl) ?_
    refine wpL_skip (by kernel_rfl) (by kernel_rfl) ?_
    refine wpL_skip (by kernel_rfl) (by kernel_rfl) ?_
    refine wpL_skip (by kernel_rfl) (by kernel_rfl) ?_
    refine wpL_skip (by kernel_rfl) (by kernel_rfl) ?_
    refine wpL_skip (by kernel_rfl) (by kernel_rfl) ?_
    refine wpL_skip (by kernel_rfl) (by kernel_rfl) ?_
    refine wpL_skip (by kernel_rfl) (by kernel_rfl) ?_
    refine wpL_skip (by kernel_rfl) (by kernel_rfl) ?_
    refine wpL_skip (by kernel_rfl) (by kernel_rfl) ?_
    refine wpL_run1 (x := .tmp 37) (.bool true) (.bool true) (by kernel_rfl) (by kernel_rfl) (by kernel_rfl) (by kernel_rfl) (by kernel_rfl) (fun wx ρ hwx h0 hc => by simp [go_sem, h0, hc]) ?_
    refine wpL_run2 (x := .tmp 24) (y := .tmp 49) (.bool true) (.bool true) (.bool true) (by kernel_rfl) (by kernel_rfl) (by kernel_rfl) (by kernel_rfl) (by kernel_rfl) (by kernel_rfl) (fun wx ρ hwx h0 h1 hc => by simp [go_sem, h0, h1]) ?_
    refine wpL_assign (.bool true) rfl (by kernel_rfl) (by kernel_rfl) (by kernel_rfl) (by kernel_rfl) ?_
    refine wpL_end (by kernel_rfl) (fun wd hwd => ?_)
    simp only [FinL, setL, List.set_cons_zero, List.set_cons_succ]
    have H9 := Lib.hid (H2.out.later hwd)
    clear hwd
    go_wp2
    go_ret
    exact ⟨rfl, H9.out.below⟩
end Lz
end Go.Proofs.Ythmnaofmpijbiaa
