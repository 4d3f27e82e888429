/- The landed page: Take. -/
import Derived.Test.YtphdpjfkpidofaaPgaB
import Derived.Laws.Cover3
namespace Go.Proofs.Ytphdpjfkpidofaa
open Go.RowKit Go.Own
namespace Pag
open Go.PagM Byt
theorem takeNew_err (x : Frm × Nat) (hx : x = (zeroF, 90)) {w w' : World} (h : Below w.heap.size w w') : TakeNew x w (.returned (.tuple #[.agg #[.int .u8 0, .bool false, .bool false, .slice none 0 0], errP 90])) w' := by
  subst hx
  exact ⟨none, 0, rfl, ⟨.inl rfl, rfl, ⟨Nat.le_refl _, Nat.zero_le _⟩, fun _ => rfl⟩, .inl rfl, h⟩
theorem view_range {w : World} {D : Nat → Prop} {g o : Nat} {l : PagM.Bs} (h : View w D (some ⟨g, o, none⟩) l) : w.rangeAt g o (l.map byteV) := fun j v hv => by
  have := vcells h _ rfl j v hv
  rwa [add_of] at this
set_option maxRecDepth 10000 in
set_option maxHeartbeats 8000000 in
theorem take_new (ao : Option Addr) (n cap : Nat) (p : PagM.Bs) (w : World) (hg : Given w ao n cap p) (hb : n ≤ 1000000) :
    Calls Try.prog 14 #[.slice ao n cap] w (TakeNew (PagM.take p) w) := by
  obtain ⟨X, hX⟩ : ∃ X, X = PagM.take p := ⟨_, rfl⟩
  rw [← hX]
  have HN := Lib.hid hg.size
  by_cases h128 : ((n : Int) != 128) = true
  · have HX : Hid (X = (zeroF, 90)) := by
      show X = _
      have h2 : ¬ n = 128 := by simp at h128; omega
      rw [hX]; unfold PagM.take; rw [if_neg]; unfold isPage; rw [HN.out]; simp [h2]
    have H2 := Lib.hid ((Own.St.start w).boxV 24 [.int .u8 0, .bool false, .bool false, .slice none 0 0])
    clear hX hg
    go_enter Try.func14, Try.ntmps14
    go_wp2
    refine bodyPost_ret (results_cell_two rfl _ _ w.heap.size 24 _ (0, 0) _ _ rfl rfl (H2.out.rowV 0 rfl) Try.underlying24 rfl (info_frame _ rfl)) rfl ?_
    exact takeNew_err X HX.out H2.out.below
  have hn : n = 128 := by simp at h128; omega
  subst hn
  clear h128 hb
  obtain ⟨g, o, rfl, _, hlt, c0⟩ := vat hg.view (k := 0) (by rw [hg.size]; decide)
  have c1 := vcell hg.view (k := 1) (by rw [hg.size]; decide)
  obtain ⟨d, hd⟩ : ∃ d, d = p.getD 1 0 := ⟨_, rfl⟩
  rw [← hd] at c1
  have hroom := hg.room
  unfold maxLen at hroom
  have hd8 : d.toNat ≤ 255 := by have := d.toNat_lt; omega
  have c1' : (w.alloc (.cells #[.int .u8 0, .bool false, .bool false, .slice none 0 0] 24)).cell? ⟨g, o + 1, none⟩ = some (.int .u8 (d.toNat : Int)) := cell_alloc c1 _
  by_cases hd125 : (125 : Int) < (d.toNat : Int)
  · have HX : Hid (X = (zeroF, 90)) := by
      show X = _
      have h2 : ¬ d.toNat ≤ 125 := by omega
      rw [hX]; unfold PagM.take; rw [if_neg]; unfold isPage; rw [← hd]; simp [h2]
    have H2 := Lib.hid ((Own.St.start w).boxV 24 [.int .u8 0, .bool false, .bool false, .slice none 0 0])
    clear hX hg hd c0 c1
    go_enter Try.func14, Try.ntmps14
    go_wp2
    refine bodyPost_ret (results_cell_two rfl _ _ w.heap.size 24 _ (0, 0) _ _ rfl rfl (H2.out.rowV 0 rfl) Try.underlying24 rfl (info_frame _ rfl)) rfl ?_
    exact takeNew_err X HX.out H2.out.below
  · have hd5 : d.toNat ≤ 125 := by omega
    obtain ⟨g63, gdl⟩ := guess_small p hg.size (by rw [← hd]; exact hd5)
    rw [← hd] at gdl
    have FR : Hid (∀ wx, Calls Try.prog 24 #[.agg (p.map byteV).toArray] wx fun e w' => ∃ ao cap, e = .returned (frV (guess p).kind.toNat (guess p).first (guess p).last (.slice ao (guess p).data.length cap)) ∧ Own.St wx.heap.size wx w' [AB ao (guess p).data.length cap (guess p).data]) := fun wx => frame_any p hg.size (by rw [← hd]; exact hd5) wx
    obtain ⟨sm, hsm⟩ : ∃ b, b = decide (laid (guess p) = p) := ⟨_, rfl⟩
    have HX0 : X = if sm = true then (guess p, 0) else (zeroF, 90) := by
      rw [hX]
      unfold PagM.take isPage
      rw [HN.out, ← hd, ← hsm, show decide ((128 : Nat) = 128) = true from rfl, show decide (d.toNat ≤ 125) = true from decide_eq_true hd5]
      simp
    have LL : Hid ((laid (guess p)).length = 128) := laid_len _ (by rw [gdl]; exact hd5)
    obtain ⟨gu, hgu⟩ : ∃ x, x = guess p := ⟨_, rfl⟩
    rw [← hgu] at HX0 hsm g63 gdl FR LL
    obtain ⟨gk, gf, gl, gd⟩ := gu
    simp only at g63 gdl FR
    have HX := Lib.hid HX0
    have HSM := Lib.hid hsm
    have HGD := Lib.hid gdl
    obtain ⟨z, hz⟩ : ∃ z, z = ((List.replicate 128 (0 : UInt8)).map byteV).toArray := ⟨_, rfl⟩
    have ZP : Hid ((Try.prog.info? 47).bind (·.zero) = some (.agg z)) := by rw [hz]; exact zero_page
    have h2 := ((Own.St.start w).boxV 24 [.int .u8 0, .bool false, .bool false, .slice none 0 0])
    have RG : Hid ((w.alloc (.cells #[.int .u8 0, .bool false, .bool false, .slice none 0 0] 24)).rangeAt g o (p.map byteV)) := view_range (hg.later h2.below).view
    obtain ⟨W2, hW2⟩ : ∃ W, W = w.alloc (.cells #[.int .u8 0, .bool false, .bool false, .slice none 0 0] 24) := ⟨_, rfl⟩
    rw [← hW2] at h2
    obtain ⟨b4, hb4⟩ : ∃ b, b = W2.heap.size := ⟨_, rfl⟩
    obtain ⟨W3, hW3⟩ : ∃ W, W = W2.alloc (.cells z 47) := ⟨_, rfl⟩
    have h3 := A8.box h2 47 (List.replicate 128 0)
    rw [← hz, ← hb4, ← hW3] at h3
    have TH := Lib.hid (A8.there h3 0 rfl p (by rw [hg.size]; rfl))
    have h4 := A8.setAll h3 0 rfl p (by rw [hg.size]; rfl)
    simp only [List.set_cons_zero] at h4
    obtain ⟨W4, hW4⟩ : ∃ W, W = W3.setCells b4 0 (p.map byteV).toArray.toList := ⟨_, rfl⟩
    rw [← hW4] at h4
    have IB := Lib.hid (info_page p hg.size)
    have IL := Lib.hid (info_pageL p hg.size)
    have OB := Lib.hid (one8 p)
    have ROW4 := Lib.hid (A8.row h4 0 rfl)
    have HW2 := Lib.hid hW2
    have HW3 := Lib.hid hW3
    have HW4 := Lib.hid hW4
    have HB4 := Lib.hid hb4
    have H4 := Lib.hid h4
    have FC := Lib.hid (FR.out W4)
    have hat : ∀ w, (Instr.arrayAt 47 (.slice (some ⟨g, o, none⟩) 128 cap)).run Try.prog w = .ok (.pointer (some ⟨g, o, none⟩)) w := fun w => run_arrayAt w 47 _ 128 _ 128 cap Try.underlying47 (Nat.le_refl _)
    clear FR hX HX0 hsm hg hd c0 c1 hgu gdl hz h2 h3 h4 hW2 hW3 hW4 hb4
    go_enter Try.func14, Try.ntmps14
    go_wp2_with (first
      | (refine wpList_load_mid rfl 47 (.tmp 17) rfl g o rfl (p.map byteV) _ RG.out Try.underlying47 rfl IL.out ?_)
      | (refine Own.wpList_allocZ rfl 47 rfl z ZP.out ?_; rw [← HW2.out, ← HB4.out, ← HW3.out])
      | (refine wpList_store_mid rfl 47 (.tmp 4) (.tmp 18) rfl b4 0 (p.map byteV).toArray rfl rfl TH.out IB.out OB.out ?_; rw [← HW4.out])
      | (refine wpList_load_row rfl 47 (.tmp 4) rfl b4 rfl 47 _ (0, 0) _ ROW4.out Try.underlying47 rfl IB.out ?_))
    refine FC.out.mono ?_
    clear FC RG TH ROW4 c1'
    rintro e w5 ⟨a5, c5, rfl, h5⟩
    obtain ⟨S5, hS5, hge, _⟩ := h5.at 0 rfl
    have h6 := H4.out.adopt h5.below (AB a5 gd.length c5 gd) hS5 hge
    have h7 := h6.boxV 24 (frC gk.toNat gf gl (.slice a5 gd.length c5)).toList
    rw [HGD.out] at h7 ⊢
    have H7 := Lib.hid h7
    clear h5 h6 h7 hS5 hge
    go_wp2_with (fail)
    obtain ⟨b5, hb5⟩ : ∃ b, b = w5.heap.size := ⟨_, rfl⟩
    have h7 := H7.out
    obtain ⟨W7, hW7⟩ : ∃ W, W = w5.alloc (.cells (frC gk.toNat gf gl (.slice a5 d.toNat c5)) 24) := ⟨_, rfl⟩
    rw [← hW7, ← hb5]
    rw [← hW7, ← hb5] at h7
    have H7 := Lib.hid h7
    have HG7 : Hid (Given W7 a5 d.toNat c5 gd) := given_own h7 1 rfl
    clear hb5 h7 hW7
    have R5 : Hid (∀ wx, Below W7.heap.size W7 wx → wx.rangeAt b5 0 (frC gk.toNat gf gl (.slice a5 d.toNat c5)).toList) := fun wx hwx => range_box (H7.out.later hwx) 0 rfl
    have R4 : Hid (∀ wx, Below W7.heap.size W7 wx → wx.rangeAt b4 0 (p.map byteV)) := fun wx hwx => range_box (t := 47) (H7.out.later hwx) 2 rfl
    have CL : Hid (∀ wx, Below W7.heap.size W7 wx → Calls Try.prog 23 #[frV gk.toNat gf gl (.slice a5 d.toNat c5)] wx fun e w' => e = .returned (.agg ((laid ⟨gk, gf, gl, gd⟩).map byteV).toArray) ∧ Below wx.heap.size wx w') := fun wx hwx => lay_any ⟨gk, gf, gl, gd⟩ a5 d.toNat c5 wx (HG7.out.later hwx) g63 hd5
    obtain ⟨nq, hnq⟩ : ∃ b, b = !sm := ⟨_, rfl⟩
    have HNQ := Lib.hid hnq
    have HS2 : Hid (decide (laid ⟨gk, gf, gl, gd⟩ = p) = sm) := HSM.out.symm
    refine wp_lax_list (by kernel_rfl) (by kernel_rfl) (by kernel_rfl) ?_
    refine wpL_run1 (x := .tmp 5) (.pointer (some ⟨b5, 0, none⟩)) (frV gk.toNat gf gl (.slice a5 d.toNat c5)) (by kernel_rfl) (by kernel_rfl) (by kernel_rfl) (by kernel_rfl) (by kernel_rfl) (fun wx ρ hwx h0 hc => load_frameE (frC gk.toNat gf gl (.slice a5 d.toNat c5)).toList rfl rfl ρ (R5.out wx hwx) h0) ?_
    refine wpL_fn (.agg ((laid ⟨gk, gf, gl, gd⟩).map byteV).toArray) [frV gk.toNat gf gl (.slice a5 d.toNat c5)] rfl (by kernel_rfl) (by kernel_rfl) (by kernel_rfl) (by kernel_rfl) (fun _ _ => by simp [go_sem]) (fun wx hwx => CL.out wx hwx) ?_
    refine wpL_run1 (x := .tmp 4) (.pointer (some ⟨b4, 0, none⟩)) (.agg (p.map byteV).toArray) (by kernel_rfl) (by kernel_rfl) (by kernel_rfl) (by kernel_rfl) (by kernel_rfl) (fun wx ρ hwx h0 hc => load_pageE p HN.out rfl ρ (R4.out wx hwx) h0) ?_
    refine wpL_run2 (x := .tmp 22) (y := .tmp 23) (.agg ((laid ⟨gk, gf, gl, gd⟩).map byteV).toArray) (.agg (p.map byteV).toArray) (.bool (!sm)) (by kernel_rfl) (by kernel_rfl) (by kernel_rfl) (by kernel_rfl) (by kernel_rfl) (by kernel_rfl) (fun wx ρ hwx h0 h1 hc => neq_pageE rfl LL.out HN.out HS2.out ρ wx h0 h1) ?_
    refine wpL_end (by kernel_rfl) (fun w8 hw8 => ?_)
    simp only [FinL, setL, List.set_cons_zero, List.set_cons_succ]
    have H8 := Lib.hid (H7.out.later hw8)
    have ROW8 := Lib.hid (H8.out.rowV 0 rfl)
    clear hw8 R5 R4 CL H7 HG7 HNQ hnq HSM HS2 LL
    have q0 := H8.out.cellV 3 rfl 0 rfl
    have q1 := H8.out.cellV 3 rfl 1 rfl
    have q2 := H8.out.cellV 3 rfl 2 rfl
    have q3 := H8.out.cellV 3 rfl 3 rfl
    cases sm
    · have HXX : Hid (X = (zeroF, 90)) := by show X = _; rw [HX.out]; rfl
      have H9 := Lib.hid ((((H8.out.storeV 3 rfl 0 (.int .u8 0)).storeV 3 rfl 1 (.bool false)).storeV 3 rfl 2 (.bool false)).storeV 3 rfl 3 (.slice none 0 0))
      clear HX
      go_wp2
      refine bodyPost_ret (results_cell_two rfl _ _ w.heap.size 24 _ (0, 0) _ _ rfl rfl (H9.out.rowV 3 rfl) Try.underlying24 rfl (info_frame _ rfl)) rfl ?_
      exact takeNew_err X HXX.out H9.out.below
    · have HXX : Hid (X = (⟨gk, gf, gl, gd⟩, 0)) := by show X = _; rw [HX.out]; rfl
      have h9 := (((H8.out.storeV 3 rfl 0 (.int .u8 (gk.toNat : Int))).storeV 3 rfl 1 (.bool gf)).storeV 3 rfl 2 (.bool gl)).storeV 3 rfl 3 (.slice a5 d.toNat c5)
      have H9 := Lib.hid h9
      clear HX h9
      go_wp2_with (refine wpList_load_row rfl 24 (.tmp 5) rfl b5 rfl 24 _ (0, 0) _ ROW8.out Try.underlying24 rfl (info_frame _ rfl) ?_)
      refine bodyPost_ret (results_cell_two rfl _ _ w.heap.size 24 _ (0, 0) _ _ rfl rfl (H9.out.rowV 3 rfl) Try.underlying24 rfl (info_frame _ rfl)) rfl ?_
      rw [HXX.out]
      unfold TakeNew
      simp only [HGD.out]
      exact ⟨a5, c5, rfl, given_own H9.out 1 rfl, ab_view H9.out 1 rfl, H9.out.below⟩
end Pag
end Go.Proofs.Ytphdpjfkpidofaa
