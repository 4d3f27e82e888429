/- LzSteps: the walk. -/
import Derived.Test.YthmnaofmpijbiaaLawLz
namespace Go.Proofs.Ythmnaofmpijbiaa
open Go.RowKit Go.Own
namespace Lz
open Go.MatM Go.LzM Byt

set_option maxRecDepth 6000 in
set_option maxHeartbeats 8000000 in
theorem walk_steps (a0 : Option Addr) (len0 cap0 : Nat) (x0 : Bs) (d0 : Int) (wd : (Lit.int .u8 d0).wf = true) (n0 : Int) (wn : (Lit.int .u8 n0).wf = true) {w : World} (w0 : inBytes x0 w.heap.size w [.slice a0 len0 cap0]) (K : Kept w) :
    Calls Try.prog 7 #[.slice a0 len0 cap0, .int .u8 d0, .int .u8 n0] w (RetYes w) := by
  obtain ⟨dc, rfl⟩ := u8_byte wd
  obtain ⟨nc, rfl⟩ := u8_byte wn
  have G := in_given w0
  obtain ⟨m, hm⟩ : ∃ m, m = min len0 128 := ⟨_, rfl⟩
  have hmin : min (len0 : Int) 128 = (m : Int) := by omega
  have hmn : m ≤ len0 := by omega
  have hmb : m ≤ 128 := by omega
  have g := given_take G m hmn
  obtain ⟨x, hx⟩ : ∃ x, x = x0.take m := ⟨_, rfl⟩
  rw [← hx] at g
  have GX := Lib.hid g
  have SH := Lib.hid (shown_any K)
  have hCT := cutTo (ao := a0) (l := x0) (m := len0) (cap := cap0) m G.size hmn G.room.1 G.room.2 G.nil
  have CT := Lib.hid hCT.1
  by_cases hm0 : m = 0
  · have hgo : ((m : Int) == 0) = true := by simp [hm0]
    clear hCT hm hx G g w0 K hm0
    go_enter Try.func7, Try.ntmps7
    go_wp2_with (fail)
    refine SH.out.mono ?_
    rintro e w1 ⟨rfl, h1⟩
    have B1 := Lib.hid h1
    clear h1
    go_wp2_with (refine Byt.wpList_val rfl (CT.out _ (.tmp 18) (.tmp 21) rfl _ _ rfl rfl) ?_)
    go_ret
    exact ⟨rfl, B1.out⟩
  have hgo : ((m : Int) == 0) = false := by simp [hm0]
  have hmpos : 0 < m := by omega
  have hdb : dc.toNat < 256 := dc.toNat_lt
  have hnb : nc.toNat < 256 := nc.toNat_lt
  obtain ⟨f0, hf0⟩ : ∃ q, q = dc.toNat % m := ⟨_, rfl⟩
  have hf0m : f0 < m := by rw [hf0]; exact Nat.mod_lt _ hmpos
  have hr1 : (dc.toNat : Int) % (m : Int) = (f0 : Int) := by rw [hf0]; simp
  have hr2 : (dc.toNat : Int).tmod (m : Int) = (f0 : Int) := by rw [Int.tmod_eq_emod_of_nonneg (by omega)]; exact hr1
  obtain ⟨f, hf⟩ : ∃ q, q = f0 + 1 := ⟨_, rfl⟩
  have e1 : (f0 : Int) + 1 = (f : Int) := by omega
  obtain ⟨l0, hl0⟩ : ∃ q, q = nc.toNat % 128 := ⟨_, rfl⟩
  have e2 : (nc.toNat : Int) % 128 = (l0 : Int) := by omega
  obtain ⟨l, hl⟩ : ∃ q, q = l0 + 3 := ⟨_, rfl⟩
  have e3 : (l0 : Int) + 3 = (l : Int) := by omega
  obtain ⟨c1, hc1⟩ : ∃ c, c = UInt8.ofNat (m - 1) := ⟨_, rfl⟩
  obtain ⟨c2, hc2⟩ : ∃ c, c = UInt8.ofNat (128 + l - 3) := ⟨_, rfl⟩
  obtain ⟨c3, hc3⟩ : ∃ c, c = UInt8.ofNat (f - 1) := ⟨_, rfl⟩
  have hv1 : c1.toNat = m - 1 := by rw [hc1, ofNat_toNat _ (by omega)]
  have hv2 : c2.toNat = 128 + l - 3 := by rw [hc2, ofNat_toNat _ (by omega)]
  have hv3 : c3.toNat = f - 1 := by rw [hc3, ofNat_toNat _ (by omega)]
  have e4 : (m : Int) - 1 = (c1.toNat : Int) := by omega
  have e5 : (128 : Int) + (l : Int) - 3 = (c2.toNat : Int) := by omega
  have e6 : (f : Int) - 1 = (c3.toNat : Int) := by omega
  obtain ⟨ml, hml⟩ : ∃ q, q = m + l := ⟨_, rfl⟩
  have e7 : (m : Int) + (l : Int) = (ml : Int) := by omega
  have hb1 : c1.toNat ≤ 255 := by omega
  have hb2 : c2.toNat ≤ 255 := by omega
  have hb3 : c3.toNat ≤ 255 := by omega
  have hlb : l ≤ 130 := by omega
  have hl3 : 3 ≤ l := by omega
  have hfb1 : 1 ≤ f := by omega
  have hfm : f ≤ m := by omega
  have hmlb : m + l ≤ 1000000000 := by omega
  have hml2 : ml ≤ 300 := by omega
  have hmml : m ≤ ml := by omega
  obtain ⟨Y, hY⟩ : ∃ Y, Y = copyN x f l := ⟨_, rfl⟩
  have HYL : Hid (Y.length = ml) := by show Y.length = ml; rw [hY, copyN_len, g.size, hml]
  have HYP : Hid (Y.take m = x) := by
    show Y.take m = x
    apply List.ext_getElem
    · rw [List.length_take, HYL.out, g.size]; omega
    · intro k h1 h2
      have h3 := copyN_pre f l x k h2
      rw [← hY] at h3
      have hk : k < Y.length := by rw [HYL.out]; rw [g.size] at h2; omega
      rw [List.getElem_take]
      simpa [List.getD, hk, h2] using h3
  have HYA : Hid (∀ t, m ≤ t → t < ml → Y.getD t 0 = Y.getD (t - f) 0) := by
    intro t h1 h2
    have h3 := copyN_at f hfb1 l x (by rw [g.size]; exact hfm) t (by rw [g.size]; exact h1) (by rw [g.size]; omega)
    rw [hY]
    exact h3
  have hU1 : unpack ([1, c1] ++ x ++ [c2, c3]) ((ml : Nat) : Int).toNat = (Y, 0) := by
    have h := steps_dec x (by rw [g.size]; omega) (by rw [g.size]; omega) f l hfb1 (by rw [g.size]; exact hfm) hl3 hlb ml (by rw [g.size]; omega)
    rw [g.size, ← hc1, ← hc2, ← hc3, ← hY] at h
    rw [Int.toNat_natCast, ← h]
    simp
  have hU2 : unpack (([1, c1] ++ x ++ [c2, c3]).take (2 + m + 1)) (1000 : Int).toNat = ([], 60) := by
    have h := steps_cut x (by rw [g.size]; omega) (by rw [g.size]; omega) l hl3 hlb 1000 (by rw [g.size]; omega)
    rw [g.size, ← hc1, ← hc2] at h
    have et : ([1, c1] ++ x ++ [c2, c3]).take (2 + m + 1) = 1 :: c1 :: (x ++ [c2]) := by
      have e0 : [1, c1] ++ x ++ [c2, c3] = (1 :: c1 :: (x ++ [c2])) ++ [c3] := by simp
      rw [e0, List.take_left' (by simp [g.size]; omega)]
    rw [et]
    exact h
  have C1 : Hid (∀ (ao : Option Addr) (c : Nat) wx, Below w.heap.size w wx → Given wx ao (2 + m + 2) c ([1, c1] ++ x ++ [c2, c3]) → Calls Try.prog 13 #[.slice ao (2 + m + 2) c, .int .i64 (ml : Int)] wx fun e w' => ∃ a c, e = .returned (.tuple #[.slice a ml c, .int .i64 0]) ∧ Given w' a ml c Y ∧ Below wx.heap.size wx w') :=
    fun ao c wx hwx h => unpack_st K hwx h (by omega) (by omega) (by omega) (k := 0) hU1 HYL.out
  have C2 : Hid (∀ (ao : Option Addr) (c : Nat) wx, Below w.heap.size w wx → Given wx ao (2 + m + 2) c ([1, c1] ++ x ++ [c2, c3]) → Calls Try.prog 13 #[.slice ao (2 + m + 1) c, .int .i64 1000] wx fun e w' => ∃ a c, e = .returned (.tuple #[.slice a 0 c, .int .i64 60]) ∧ Given w' a 0 c [] ∧ Below wx.heap.size wx w') :=
    fun ao c wx hwx h => unpack_st K hwx (given_take h (2 + m + 1) (by omega)) (by omega) (by omega) (by omega) (k := 60) hU2 rfl
  clear hCT hm hx G g w0 K hm0 hf0 hl0 hc1 hc2 hc3 hv1 hv2 hv3 hU1 hU2 hY hf hl wd wn
  have hfb : f ≤ m := hfm
  have hmlx : ml = m + l := hml
  have HML := Lib.hid hml
  clear hml hmlx
  go_enter Try.func7, Try.ntmps7
  go_wp2_with (fail)
  refine SH.out.mono ?_
  rintro e w1 ⟨rfl, h1⟩
  have B1 := Lib.hid ((Own.St.start w).later h1)
  clear h1
  have BE := Lib.hid (ab_two B1.out 1 c1)
  have HC := Lib.hid (vcells (GX.out.later BE.out.below).view)
  have HNO := Lib.hid (given_nil GX.out)
  go_wp2_with (first
    | (refine Byt.wpList_val rfl (CT.out _ (.tmp 18) (.tmp 21) rfl _ _ rfl rfl) ?_)
    | (at_builtin; refine Byt.wpList_ab_append rfl (.tmp 41) (.tmp 42) rfl BE.out 0 rfl rfl a0 m cap0 x rfl HNO.out GX.out.size HC.out (by omega) ?_; intro a2 cc2 wb hb'; simp only [List.set_cons_zero] at hb'; have H2 := Lib.hid hb'; clear hb')
    | (at_builtin; refine Byt.wpList_ab_append rfl (.tmp 44) (.tmp 52) rfl (H2.out.alloc (.cells #[.int .u8 (c2.toNat : Int), .int .u8 (c3.toNat : Int)] 5)) 0 rfl rfl (some ⟨wb.heap.size, 0, none⟩) 2 2 [c2, c3] rfl (by intro h; cases h) rfl (two_cells wb c2 c3 _) (by omega) ?_; intro a3 cc3 wd hd'; simp only [List.set_cons_zero] at hd'; have H3 := Lib.hid hd'; clear hd'))
  refine (C1.out a3 cc3 wd H3.out.below (given_own H3.out 0 rfl)).mono ?_
  rintro e w4 ⟨ay, cy, rfl, g4, h4⟩
  have H4 := Lib.hid (H3.out.later h4)
  have Y4 := Lib.hid g4
  clear h4 g4 BE HC HNO H2
  have hYCT := cutTo (ao := ay) (l := Y) (m := ml) (cap := cy) m HYL.out hmml Y4.out.room.1 Y4.out.room.2 Y4.out.nil
  have CY := Lib.hid hYCT.1
  have HV1 : Hid (∀ wx, Below w4.heap.size w4 wx → (convert 22 9 (.slice ay m cy)).run Try.prog wx = .ok (.string (strB x)) wx) := fun wx hwx => by
    have h := given_take (Y4.out.later hwx) m hmml
    rw [HYP.out] at h
    exact given_str h
  have X4 := Lib.hid (GX.out.later H4.out.below)
  have HV2 : Hid (∀ wx, Below w4.heap.size w4 wx → (convert 22 9 (.slice a0 m cap0)).run Try.prog wx = .ok (.string (strB x)) wx) := fun wx hwx => given_str (X4.out.later hwx)
  clear hYCT
  go_wp2_with (fail)
  have hml : ml = m + l := HML.out
  refine wp_lax_list (by kernel_rfl) (by kernel_rfl) (by kernel_rfl) ?_
  refine wpL_move (.int .i64 0) rfl (by kernel_rfl) (by kernel_rfl) (by kernel_rfl) (by kernel_rfl) ?_
  refine wpL_run1 (x := .tmp 63) (.int .i64 0) (.bool false) (by kernel_rfl) (by kernel_rfl) (by kernel_rfl) (by kernel_rfl) (by kernel_rfl) (fun wx ρ hwx h0 hc => by simp [go_sem, h0, hc]) ?_
  refine wpL_move (.bool false) rfl (by kernel_rfl) (by kernel_rfl) (by kernel_rfl) (by kernel_rfl) ?_
  refine wpL_move (.slice ay ml cy) rfl (by kernel_rfl) (by kernel_rfl) (by kernel_rfl) (by kernel_rfl) ?_
  refine wpL_run1 (x := .tmp 66) (.slice ay ml cy) (.int .i64 (ml : Int)) (by kernel_rfl) (by kernel_rfl) (by kernel_rfl) (by kernel_rfl) (by kernel_rfl) (fun wx ρ hwx h0 hc => by simp [go_sem, h0, hc]) ?_
  refine wpL_move (.slice a0 m cap0) rfl (by kernel_rfl) (by kernel_rfl) (by kernel_rfl) (by kernel_rfl) ?_
  refine wpL_run1 (x := .tmp 68) (.slice a0 m cap0) (.int .i64 (m : Int)) (by kernel_rfl) (by kernel_rfl) (by kernel_rfl) (by kernel_rfl) (by kernel_rfl) (fun wx ρ hwx h0 hc => by simp [go_sem, h0, hc]) ?_
  refine wpL_move (.int .i64 (l : Int)) rfl (by kernel_rfl) (by kernel_rfl) (by kernel_rfl) (by kernel_rfl) ?_
  refine wpL_run2 (x := .tmp 69) (y := .tmp 70) (.int .i64 (m : Int)) (.int .i64 (l : Int)) (.int .i64 (ml : Int)) (by kernel_rfl) (by kernel_rfl) (by kernel_rfl) (by kernel_rfl) (by kernel_rfl) (by kernel_rfl) (fun wx ρ hwx h0 h1 hc => add_ints rfl m l hmlb hml ρ wx h0 h1) ?_
  refine wpL_run2 (x := .tmp 67) (y := .tmp 71) (.int .i64 (ml : Int)) (.int .i64 (ml : Int)) (.bool false) (by kernel_rfl) (by kernel_rfl) (by kernel_rfl) (by kernel_rfl) (by kernel_rfl) (by kernel_rfl) (fun wx ρ hwx h0 h1 hc => by simp [h0, h1, hc, go_sem]) ?_
  refine wpL_run2 (x := .tmp 65) (y := .tmp 72) (.bool false) (.bool false) (.bool false) (by kernel_rfl) (by kernel_rfl) (by kernel_rfl) (by kernel_rfl) (by kernel_rfl) (by kernel_rfl) (fun wx ρ hwx h0 h1 hc => by simp [go_sem, h0, h1]) ?_
  refine wpL_move (.bool false) rfl (by kernel_rfl) (by kernel_rfl) (by kernel_rfl) (by kernel_rfl) ?_
  refine wpL_move (.slice ay ml cy) rfl (by kernel_rfl) (by kernel_rfl) (by kernel_rfl) (by kernel_rfl) ?_
  refine wpL_move (.slice a0 m cap0) rfl (by kernel_rfl) (by kernel_rfl) (by kernel_rfl) (by kernel_rfl) ?_
  refine wpL_run1 (x := .tmp 76) (.slice a0 m cap0) (.int .i64 (m : Int)) (by kernel_rfl) (by kernel_rfl) (by kernel_rfl) (by kernel_rfl) (by kernel_rfl) (fun wx ρ hwx h0 hc => by simp [go_sem, h0, hc]) ?_
  refine wpL_run2 (x := .tmp 75) (y := .tmp 77) (.slice ay ml cy) (.int .i64 (m : Int)) (.slice ay m cy) (by kernel_rfl) (by kernel_rfl) (by kernel_rfl) (by kernel_rfl) (by kernel_rfl) (by kernel_rfl) (fun wx ρ hwx h0 h1 hc => CY.out _ _ _ rfl ρ wx h0 h1) ?_
  refine wpL_convK (.slice ay m cy) (.string (strB x)) rfl (by kernel_rfl) (by kernel_rfl) (by kernel_rfl) (by kernel_rfl) (fun wx hwx => HV1.out wx hwx) ?_
  refine wpL_move (.slice a0 m cap0) rfl (by kernel_rfl) (by kernel_rfl) (by kernel_rfl) (by kernel_rfl) ?_
  refine wpL_convK (.slice a0 m cap0) (.string (strB x)) rfl (by kernel_rfl) (by kernel_rfl) (by kernel_rfl) (by kernel_rfl) (fun wx hwx => HV2.out wx hwx) ?_
  refine wpL_run2 (x := .tmp 79) (y := .tmp 81) (.string (strB x)) (.string (strB x)) (.bool false) (by kernel_rfl) (by kernel_rfl) (by kernel_rfl) (by kernel_rfl) (by kernel_rfl) (by kernel_rfl) (fun wx ρ hwx h0 h1 hc => by simp [go_sem, h0, h1, hc]) ?_
  refine wpL_run2 (x := .tmp 74) (y := .tmp 82) (.bool false) (.bool false) (.bool false) (by kernel_rfl) (by kernel_rfl) (by kernel_rfl) (by kernel_rfl) (by kernel_rfl) (by kernel_rfl) (fun wx ρ hwx h0 h1 hc => by simp [go_sem, h0, h1]) ?_
  refine wpL_end (by kernel_rfl) (fun w5 hw5 => ?_)
  simp only [FinL, setL, List.set_cons_zero, List.set_cons_succ]
  have H5 := Lib.hid (H4.out.later hw5)
  have Y5 := Lib.hid (Y4.out.later hw5)
  obtain ⟨b, o, hay, _, _, _⟩ := vat Y5.out.view (k := 0) (by rw [HYL.out]; omega)
  subst hay
  clear hw5 H4 Y4 HV1 HV2 X4 CY hml
  go_wp2
  go_loopw [14] (fun v wr => ∃ t : Nat, m ≤ t ∧ t ≤ ml ∧ v = .int .i64 (t : Int) ∧ Below w5.heap.size w5 wr) (fun v _ => ml - (intOf v).toNat)
  case atStart => exact ⟨m, Nat.le_refl _, hmml, rfl, Below.refl _ _⟩
  case round =>
    obtain ⟨t, hmt, htm, rfl, hB⟩ := hrel
    have HB := Lib.hid hB
    clear hB
    by_cases ht : (t : Int) < (ml : Int)
    · have htl : t < ml := by omega
      obtain ⟨s, hs⟩ : ∃ s, s = t - f := ⟨_, rfl⟩
      have hsl : s < ml := by omega
      have hfb2 : f ≤ t ∧ t ≤ 1000000000 := by omega
      obtain ⟨z, hz⟩ : ∃ z, z = Y.getD t 0 := ⟨_, rfl⟩
      have hz2 : Y.getD s 0 = z := by rw [hz, hs]; exact (HYA.out t hmt htl).symm
      have YR := Lib.hid (Y5.out.later HB.out)
      have HC1 : Hid (∀ wx, Below wr.heap.size wr wx → wx.cell? ⟨b, o + t, none⟩ = some (.int .u8 (z.toNat : Int))) := fun wx hwx => by
        rw [hz]; exact vcell (YR.out.later hwx).view (by rw [HYL.out]; exact htl)
      have HC2 : Hid (∀ wx, Below wr.heap.size wr wx → wx.cell? ⟨b, o + s, none⟩ = some (.int .u8 (z.toNat : Int))) := fun wx hwx => by
        rw [← hz2]; exact vcell (YR.out.later hwx).view (by rw [HYL.out]; exact hsl)
      clear hz hz2
      go_wp2_with (fail)
      refine wp_lax_list (by kernel_rfl) (by kernel_rfl) (by kernel_rfl) ?_
      refine wpL_move (.slice (some ⟨b, o, none⟩) ml cy) rfl (by kernel_rfl) (by kernel_rfl) (by kernel_rfl) (by kernel_rfl) ?_
      refine wpL_move (.int .i64 (t : Int)) rfl (by kernel_rfl) (by kernel_rfl) (by kernel_rfl) (by kernel_rfl) ?_
      refine wpL_run2 (x := .tmp 92) (y := .tmp 93) (.slice (some ⟨b, o, none⟩) ml cy) (.int .i64 (t : Int)) (.pointer (some ⟨b, o + t, none⟩)) (by kernel_rfl) (by kernel_rfl) (by kernel_rfl) (by kernel_rfl) (by kernel_rfl) (by kernel_rfl) (fun wx ρ hwx h0 h1 hc => idx_at rfl htl ρ wx h0 h1) ?_
      refine wpL_run1 (x := .tmp 94) (.pointer (some ⟨b, o + t, none⟩)) (.int .u8 (z.toNat : Int)) (by kernel_rfl) (by kernel_rfl) (by kernel_rfl) (by kernel_rfl) (by kernel_rfl) (fun wx ρ hwx h0 hc => load_u8 rfl ρ (HC1.out wx hwx) h0) ?_
      refine wpL_move (.slice (some ⟨b, o, none⟩) ml cy) rfl (by kernel_rfl) (by kernel_rfl) (by kernel_rfl) (by kernel_rfl) ?_
      refine wpL_move (.int .i64 (t : Int)) rfl (by kernel_rfl) (by kernel_rfl) (by kernel_rfl) (by kernel_rfl) ?_
      refine wpL_move (.int .i64 (f : Int)) rfl (by kernel_rfl) (by kernel_rfl) (by kernel_rfl) (by kernel_rfl) ?_
      refine wpL_run2 (x := .tmp 97) (y := .tmp 98) (.int .i64 (t : Int)) (.int .i64 (f : Int)) (.int .i64 (s : Int)) (by kernel_rfl) (by kernel_rfl) (by kernel_rfl) (by kernel_rfl) (by kernel_rfl) (by kernel_rfl) (fun wx ρ hwx h0 h1 hc => sub_ints rfl t f hfb2 hs ρ wx h0 h1) ?_
      refine wpL_run2 (x := .tmp 96) (y := .tmp 99) (.slice (some ⟨b, o, none⟩) ml cy) (.int .i64 (s : Int)) (.pointer (some ⟨b, o + s, none⟩)) (by kernel_rfl) (by kernel_rfl) (by kernel_rfl) (by kernel_rfl) (by kernel_rfl) (by kernel_rfl) (fun wx ρ hwx h0 h1 hc => idx_at rfl hsl ρ wx h0 h1) ?_
      refine wpL_run1 (x := .tmp 100) (.pointer (some ⟨b, o + s, none⟩)) (.int .u8 (z.toNat : Int)) (by kernel_rfl) (by kernel_rfl) (by kernel_rfl) (by kernel_rfl) (by kernel_rfl) (fun wx ρ hwx h0 hc => load_u8 rfl ρ (HC2.out wx hwx) h0) ?_
      refine wpL_run2 (x := .tmp 95) (y := .tmp 101) (.int .u8 (z.toNat : Int)) (.int .u8 (z.toNat : Int)) (.bool false) (by kernel_rfl) (by kernel_rfl) (by kernel_rfl) (by kernel_rfl) (by kernel_rfl) (by kernel_rfl) (fun wx ρ hwx h0 h1 hc => by simp [go_sem, h0, h1, hc]) ?_
      refine wpL_end (by kernel_rfl) (fun w6 hw6 => ?_)
      simp only [FinL, setL, List.set_cons_zero, List.set_cons_succ]
      have H6 := Lib.hid (HB.out.trans (hw6.mono HB.out.size))
      clear hw6 HC1 HC2 YR hs
      go_wp2
      go_roundw
      case rel => exact ⟨t + 1, by omega, by omega, by go_num, H6.out⟩
      case measure => simp [intOf]; omega
    · have H7 := Lib.hid (H5.out.later HB.out)
      have G7 := Lib.hid (given_own H7.out 0 rfl)
      have hlen : (([1, c1] ++ x ++ [c2, c3] : Bs)).length = 2 + m + 2 := G7.out.size
      have hPC := cutTo (ao := a3) (l := [1, c1] ++ x ++ [c2, c3]) (m := 2 + m + 2) (cap := cc3) (2 + m + 1) hlen (by omega) G7.out.room.1 G7.out.room.2 G7.out.nil
      have C2' := Lib.hid (C2.out a3 cc3 wr H7.out.below G7.out)
      obtain ⟨lp, hlp⟩ : ∃ q, q = 2 + m + 2 := ⟨_, rfl⟩
      obtain ⟨lq, hlq⟩ : ∃ q, q = 2 + m + 1 := ⟨_, rfl⟩
      rw [← hlp, ← hlq] at hPC
      rw [← hlq] at C2'
      rw [← hlp]
      have e9 : (lp : Int) - 1 = (lq : Int) := by omega
      have hlpb : lp ≤ 200 := by omega
      have PC := Lib.hid hPC.1
      clear hPC hlp hlq hlen
      go_wp2_with (refine Byt.wpList_val rfl (PC.out _ (.tmp 104) (.tmp 107) rfl _ _ rfl rfl) ?_)
      refine C2'.out.mono ?_
      rintro e w8 ⟨az, cz, rfl, _, h8⟩
      have H8 := Lib.hid (H7.out.later h8)
      clear h8
      go_wp2
      go_ret
      exact ⟨rfl, H8.out.below⟩
end Lz
end Go.Proofs.Ythmnaofmpijbiaa
