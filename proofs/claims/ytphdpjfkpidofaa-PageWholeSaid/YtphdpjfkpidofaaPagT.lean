/- Layer 9: the document's Take. -/
import Derived.Test.YtphdpjfkpidofaaRes
import Derived.Test.YtphdpjfkpidofaaPagR
import Derived.Test.YtphdpjfkpidofaaLaxH
namespace Go.Proofs.Ytphdpjfkpidofaa
open Go.RowKit Go.Own
namespace Pag
open Go.PagM Byt
/-- an answer of Take -/
def TakeDone (x : Frm × Nat) (w : World) (e : Ending) (w' : World) : Prop := ∃ ao cap, e = .returned (.tuple #[frV x.1.kind.toNat x.1.first x.1.last (.slice ao x.1.data.length cap), errP x.2]) ∧ Given w' ao x.1.data.length cap x.1.data ∧ Below w.heap.size w w'
/-- .. and its bytes are a part of those that came in -/
def TakeSub (a0 : Option Addr) (p : PagM.Bs) (x : Frm × Nat) (w : World) (e : Ending) (w' : World) : Prop := ∃ ao cap, e = .returned (.tuple #[frV x.1.kind.toNat x.1.first x.1.last (.slice ao x.1.data.length cap), errP x.2]) ∧ Given w' ao x.1.data.length cap x.1.data ∧ (∀ D, View w D a0 p → View w' D ao x.1.data) ∧ Below w.heap.size w w'
theorem take_err (a0 : Option Addr) (p : PagM.Bs) (x : Frm × Nat) (hx : x = (zeroF, 90)) {w w' : World} (h : Below w.heap.size w w') : TakeSub a0 p x w (.returned (.tuple #[.agg #[.int .u8 0, .bool false, .bool false, .slice none 0 0], errP 90])) w' := by
  subst hx
  exact ⟨none, 0, rfl, ⟨.inl rfl, rfl, ⟨Nat.le_refl _, Nat.zero_le _⟩, fun _ => rfl⟩, fun _ _ => .inl rfl, h⟩
theorem info_frame (cs : Array Value) (h : cs.size = 4) : (Try.prog.info? 24).map (·.size) = some cs.size := by
  have h0 : (Try.prog.info? 24).map (fun i => i.size) = some 4 := by kernel_rfl
  rw [h]
  exact h0
set_option maxRecDepth 10000 in
set_option maxHeartbeats 8000000 in
theorem refTake_sub (ao : Option Addr) (n cap : Nat) (p : PagM.Bs) (w : World) (hg : Given w ao n cap p) (hb : n ≤ 1000000) :
    Calls Try.prog 15 #[.slice ao n cap] w (TakeSub ao p (PagM.take p) w) := by
  obtain ⟨X, hX⟩ : ∃ X, X = PagM.take p := ⟨_, rfl⟩
  rw [← hX]
  have HN := Lib.hid hg.size
  by_cases h128 : ((n : Int) != 128) = true
  · have HX : Hid (X = (zeroF, 90)) := by
      show X = _
      have h2 : ¬ n = 128 := by simp at h128; omega
      rw [hX]; unfold PagM.take; rw [if_neg]; unfold isPage; rw [HN.out]; simp [h2]
    have H2 := Lib.hid ((Own.St.start w).boxV 24 [.int .u8 0, .bool false, .bool false, .slice none 0 0])
    clear hX hg
    go_enter Try.func15, Try.ntmps15
    go_wp2
    refine bodyPost_ret (results_cell_two rfl _ _ w.heap.size 24 _ (0, 0) _ _ rfl rfl (H2.out.rowV 0 rfl) Try.underlying24 rfl (info_frame _ rfl)) rfl ?_
    exact take_err _ _ X HX.out H2.out.below
  have hn : n = 128 := by simp at h128; omega
  subst hn
  clear h128 hb
  obtain ⟨g, o, rfl, _, hlt, c0⟩ := vat hg.view (k := 0) (by rw [hg.size]; decide)
  have c1 := vcell hg.view (k := 1) (by rw [hg.size]; decide)
  obtain ⟨a, ha⟩ : ∃ a, a = p.getD 0 0 := ⟨_, rfl⟩
  obtain ⟨d, hd⟩ : ∃ d, d = p.getD 1 0 := ⟨_, rfl⟩
  rw [← ha, Nat.add_zero] at c0
  rw [← hd] at c1
  have hroom := hg.room
  unfold maxLen at hroom
  have ha8 : a.toNat ≤ 255 := by have := a.toNat_lt; omega
  have hd8 : d.toNat ≤ 255 := by have := d.toNat_lt; omega
  obtain ⟨W1, hW1⟩ : ∃ W, W = w.alloc (.cells #[.int .u8 0, .bool false, .bool false, .slice none 0 0] 24) := ⟨_, rfl⟩
  have c0' : W1.cell? ⟨g, o, none⟩ = some (.int .u8 (a.toNat : Int)) := by rw [hW1]; exact cell_alloc c0 _
  have c1' : W1.cell? ⟨g, o + 1, none⟩ = some (.int .u8 (d.toNat : Int)) := by rw [hW1]; exact cell_alloc c1 _
  by_cases hd125 : (125 : Int) < (d.toNat : Int)
  · have HX : Hid (X = (zeroF, 90)) := by
      show X = _
      have h2 : ¬ d.toNat ≤ 125 := by omega
      rw [hX]; unfold PagM.take; rw [if_neg]; unfold isPage; rw [← hd]; simp [h2]
    have H2 := Lib.hid ((Own.St.start w).boxV 24 [.int .u8 0, .bool false, .bool false, .slice none 0 0])
    rw [hW1] at c0' c1'
    clear hX hg ha hd c0 c1 hW1 W1
    go_enter Try.func15, Try.ntmps15
    go_wp2
    refine bodyPost_ret (results_cell_two rfl _ _ w.heap.size 24 _ (0, 0) _ _ rfl rfl (H2.out.rowV 0 rfl) Try.underlying24 rfl (info_frame _ rfl)) rfl ?_
    exact take_err _ _ X HX.out H2.out.below
  · have h2 := ((Own.St.start w).boxV 24 [.int .u8 0, .bool false, .bool false, .slice none 0 0])
    rw [hW1] at c0' c1'
    obtain ⟨gk, hgk⟩ : ∃ x, x = (guess p).kind := ⟨_, rfl⟩
    obtain ⟨gf, hgf⟩ : ∃ x, x = (guess p).first := ⟨_, rfl⟩
    obtain ⟨gl, hgl⟩ : ∃ x, x = (guess p).last := ⟨_, rfl⟩
    obtain ⟨gd, hgd⟩ : ∃ x, x = (guess p).data := ⟨_, rfl⟩
    have hgu : guess p = ⟨gk, gf, gl, gd⟩ := by rw [hgk, hgf, hgl, hgd]
    obtain ⟨g63, gdl⟩ := guess_small p hg.size (by rw [← hd]; omega)
    rw [← hgk] at g63
    rw [← hgd, ← hd] at gdl
    have ek : (a.toNat : Int) % 64 = (gk.toNat : Int) := by
      have : gk.toNat = a.toNat % 64 := by rw [hgk, ha]; unfold guess; exact ofNat_toNat _ (by omega)
      omega
    have ef : ((a.toNat : Int) / 64 % 2 == 1) = gf := by
      rw [hgf, ha]; unfold guess; simp only
      rw [Bool.eq_iff_iff]; simp; omega
    have el : ((a.toNat : Int) / 128 == 1) = gl := by
      rw [hgl, ha]; unfold guess; simp only
      rw [Bool.eq_iff_iff]; simp; omega
    have h3 := h2.boxV 24 (frC gk.toNat gf gl (.slice (some ⟨g, o + 2, none⟩) d.toNat (cap - 2))).toList
    simp only [size_alloc'] at h3
    have GD : Hid (Given w (some ⟨g, o + 2, none⟩) d.toNat (cap - 2) gd) := by
      refine ⟨?_, gdl, ⟨by omega, by unfold maxLen; omega⟩, fun h => by cases h⟩
      have hv := vdrop (vtake hg.view (2 + d.toNat)) 2
      rw [hgd]
      unfold guess
      simp only
      rw [← hd, show (p.take (2 + d.toNat)).drop 2 = (p.drop 2).take d.toNat by rw [List.drop_take, show 2 + d.toNat - 2 = d.toNat by omega]] at *
      exact hv
    have HSUB : Hid (∀ D, View w D (some ⟨g, o, none⟩) p → View w D (some ⟨g, o + 2, none⟩) gd) := by
      intro D hD
      have hv := vdrop (vtake hD (2 + d.toNat)) 2
      rw [hgd]
      unfold guess
      simp only
      rw [← hd, show (p.drop 2).take d.toNat = (p.take (2 + d.toNat)).drop 2 by rw [List.drop_take, show 2 + d.toNat - 2 = d.toNat by omega]]
      exact hv
    obtain ⟨sm, hsm⟩ : ∃ b, b = decide (laid ⟨gk, gf, gl, gd⟩ = p) := ⟨_, rfl⟩
    have HX : Hid (X = if sm = true then (⟨gk, gf, gl, gd⟩, 0) else (zeroF, 90)) := by
      show X = _
      rw [hX]
      unfold PagM.take isPage
      rw [hgu, HN.out, ← hd, ← hsm, show decide ((128 : Nat) = 128) = true from rfl, show decide (d.toNat ≤ 125) = true from decide_eq_true (by omega)]
      simp
    have hlay : lay ⟨gk, gf, gl, gd⟩ = (laid ⟨gk, gf, gl, gd⟩, 0) := by unfold lay; rw [if_pos (layE_ok g63 (by rw [gdl]; omega))]
    have LAY : Hid (∀ wx, Below w.heap.size w wx → Calls Try.prog 13 #[frV gk.toNat gf gl (.slice (some ⟨g, o + 2, none⟩) d.toNat (cap - 2))] wx fun e w' => ∃ ao' cap', e = .returned (.tuple #[.slice ao' 128 cap', errP 0]) ∧ Given w' ao' 128 cap' (laid ⟨gk, gf, gl, gd⟩) ∧ Below wx.heap.size wx w') := by
      intro wx hwx
      have h := refLay_any ⟨gk, gf, gl, gd⟩ (some ⟨g, o + 2, none⟩) d.toNat (cap - 2) wx (GD.out.later hwx) (by omega)
      rw [hlay] at h
      unfold LayDone at h
      simp only [laid_len ⟨gk, gf, gl, gd⟩ (by show gd.length ≤ 125; rw [gdl]; omega)] at h
      exact h
    have HG := Lib.hid hg
    have HSM := Lib.hid hsm
    have H3 := Lib.hid h3
    have HGD := Lib.hid gdl
    have H2 := Lib.hid h2
    have EK := Lib.hid ek
    have EF := Lib.hid ef
    have EL := Lib.hid el
    clear hX hg ha hd c0 c1 hW1 W1 hgk hgf hgl hgd hgu g63 gdl ek ef el h2 h3 hsm hlay
    go_enter Try.func15, Try.ntmps15
    go_wp2
    go_region
    all_goals
      rw [EK.out, EF.out, EL.out]
      have H4 : Hid (Own.St w.heap.size w ((w.alloc (.cells #[.int .u8 0, .bool false, .bool false, .slice none 0 0] 24)).alloc (.cells (frC gk.toNat gf gl (.slice (some ⟨g, o + 2, none⟩) d.toNat (cap - 2))) 24)).drew [AVals (w.heap.size + 1) 24 (frC gk.toNat gf gl (.slice (some ⟨g, o + 2, none⟩) d.toNat (cap - 2))).toList, AVals w.heap.size 24 [.int .u8 0, .bool false, .bool false, .slice none 0 0]]) := H3.out.drew
      obtain ⟨W2, hW2⟩ : ∃ W, W = ((w.alloc (.cells #[.int .u8 0, .bool false, .bool false, .slice none 0 0] 24)).alloc (.cells (frC gk.toNat gf gl (.slice (some ⟨g, o + 2, none⟩) d.toNat (cap - 2))) 24)).drew := ⟨_, rfl⟩
      rw [← hW2] at H4 ⊢
      obtain ⟨b1, hb1⟩ : ∃ b, b = w.heap.size + 1 := ⟨_, rfl⟩
      obtain ⟨b0, hb0⟩ : ∃ b, b = w.heap.size := ⟨_, rfl⟩
      have H5 : Hid (Own.St b0 w W2 [AVals b1 24 (frC gk.toNat gf gl (.slice (some ⟨g, o + 2, none⟩) d.toNat (cap - 2))).toList, AVals b0 24 [.int .u8 0, .bool false, .bool false, .slice none 0 0]]) := by rw [hb0, hb1]; exact H4.out
      rw [← hb1, ← hb0]
      have HB0 := Lib.hid hb0
      have ROW := Lib.hid (H5.out.rowV 0 rfl)
      have CL := Lib.hid (LAY.out W2 (by rw [← HB0.out]; exact H5.out.below))
      clear H4 H3 H2 hW2 hb1 hb0 c0' c1' LAY EK EF EL
      go_wp2_with (refine wpList_load_row rfl 24 (.tmp 4) rfl b1 rfl 24 _ (0, 0) _ ROW.out Try.underlying24 rfl (info_frame _ rfl) ?_)
      refine CL.out.mono ?_
      clear CL
      rintro e w3 ⟨a3, c3, rfl, hg3, hb3⟩
      have G3 := Lib.hid hg3
      have H6 := Lib.hid (H5.out.later hb3)
      have GP := Lib.hid (HG.out.later (by rw [← HB0.out]; exact H6.out.below))
      have ROW2 := Lib.hid (H6.out.rowV 0 rfl)
      clear hg3 hb3 H5 ROW HG
      have q0 := H6.out.cellV 1 rfl 0 rfl
      have q1 := H6.out.cellV 1 rfl 1 rfl
      have q2 := H6.out.cellV 1 rfl 2 rfl
      have q3 := H6.out.cellV 1 rfl 3 rfl
      cases sm
      · have HXX : Hid (X = (zeroF, 90)) := by show X = _; rw [HX.out]; rfl
        have HS2 : Hid (decide (laid ⟨gk, gf, gl, gd⟩ = p) = !true) := HSM.out.symm
        have hset := (((H6.out.storeV 1 rfl 0 (.int .u8 0)).storeV 1 rfl 1 (.bool false)).storeV 1 rfl 2 (.bool false)).storeV 1 rfl 3 (.slice none 0 0)
        have H7 := Lib.hid hset
        clear HX HSM hset
        go_wp2_with (first
          | (refine Byt.wpList_str8 rfl (.tmp 48) rfl a3 128 c3 rfl _ _ G3.out.view G3.out.size ?_)
          | (refine Byt.wpList_str8 rfl (.tmp 50) rfl (some ⟨g, o, none⟩) 128 cap rfl _ _ GP.out.view GP.out.size ?_)
          | (refine Byt.wpList_val rfl (neq_str rfl _ _ true HS2.out _ _ rfl rfl) ?_))
        refine bodyPost_ret (results_cell_two rfl _ _ b0 24 _ (0, 0) _ _ rfl rfl (H7.out.rowV 1 rfl) Try.underlying24 rfl (info_frame _ rfl)) rfl ?_
        exact take_err _ _ X HXX.out (by rw [← HB0.out]; exact H7.out.below)
      · have HXX : Hid (X = (⟨gk, gf, gl, gd⟩, 0)) := by show X = _; rw [HX.out]; rfl
        have HS2 : Hid (decide (laid ⟨gk, gf, gl, gd⟩ = p) = !false) := HSM.out.symm
        have hset := (((H6.out.storeV 1 rfl 0 (.int .u8 (gk.toNat : Int))).storeV 1 rfl 1 (.bool gf)).storeV 1 rfl 2 (.bool gl)).storeV 1 rfl 3 (.slice (some ⟨g, o + 2, none⟩) d.toNat (cap - 2))
        have H7 := Lib.hid hset
        clear HX HSM hset
        go_wp2_with (first
          | (refine Byt.wpList_str8 rfl (.tmp 48) rfl a3 128 c3 rfl _ _ G3.out.view G3.out.size ?_)
          | (refine Byt.wpList_str8 rfl (.tmp 50) rfl (some ⟨g, o, none⟩) 128 cap rfl _ _ GP.out.view GP.out.size ?_)
          | (refine Byt.wpList_val rfl (neq_str rfl _ _ false HS2.out _ _ rfl rfl) ?_)
          | (refine wpList_load_row rfl 24 (.tmp 4) rfl b1 rfl 24 _ (0, 0) _ ROW2.out Try.underlying24 rfl (info_frame _ rfl) ?_))
        refine bodyPost_ret (results_cell_two rfl _ _ b0 24 _ (0, 0) _ _ rfl rfl (H7.out.rowV 1 rfl) Try.underlying24 rfl (info_frame _ rfl)) rfl ?_
        rw [HXX.out]
        unfold TakeSub
        simp only [HGD.out]
        exact ⟨some ⟨g, o + 2, none⟩, cap - 2, rfl, GD.out.later (by rw [← HB0.out]; exact H7.out.below), fun D hD => vlater (HSUB.out D hD) (by rw [← HB0.out]; exact H7.out.below), by rw [← HB0.out]; exact H7.out.below⟩
theorem refTake_any (ao : Option Addr) (n cap : Nat) (p : PagM.Bs) (w : World) (hg : Given w ao n cap p) (hb : n ≤ 1000000) :
    Calls Try.prog 15 #[.slice ao n cap] w (TakeDone (PagM.take p) w) :=
  (refTake_sub ao n cap p w hg hb).mono fun e w' ⟨a, c, h1, h2, _, h3⟩ => ⟨a, c, h1, h2, h3⟩
end Pag
end Go.Proofs.Ytphdpjfkpidofaa
