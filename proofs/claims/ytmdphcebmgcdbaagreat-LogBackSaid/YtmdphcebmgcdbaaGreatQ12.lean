/- Merged: LgaL LgaX -/
import Derived.Test.YtmdphcebmgcdbaaGreatQ11
set_option linter.unusedVariables false
section
namespace Go.Proofs.YtmdphcebmgcdbaaGreat
open Go.RowKit Go.Own
namespace Lga
open Go.LogM Byt
open Lg (gslV entC entsC i64L)
section
variable {B : Nat} {w0 w : World} {Ps : List Asn} {p pf pt fr : Nat} {σ : LG} {N : Nat}
theorem dropMid4 {B : Nat} {w0 w : World} {g a b c : Asn} {Ps : List Asn} (Xs : List Asn) (h : Own.St B w0 w (g :: a :: b :: c :: (Xs ++ Ps))) : Own.St B w0 w (g :: a :: b :: c :: Ps) := by
  have h1 := Own.St.perm_app (Xs := [g, a, b, c]) (Ys := Xs) (Zs := Ps) h
  have h2 := h1.drop Xs.length
  rw [List.drop_left] at h2
  exact h2.perm List.perm_append_comm
def ReadD (B : Nat) (w0 : World) (p pf pt fr : Nat) (σ : LG) (Ps : List Asn) (X : RecM.Nte × Nat) (e : Ending) (w' : World) : Prop := ∃ g : GSl, g.2.2 = X.1.data ∧ e = .returned (.tuple #[Rec.ntV X.1 (gslV g), errL X.2]) ∧
  Own.St B w0 w' (AGivens [g] :: A p pf pt fr σ.fs.pp σ.tb σ.a :: Fla.AFl pf σ.fs :: Tba.A pt σ.tb :: Ps)
theorem read_none {X : RecM.Nte × Nat} {k : Nat} (hX : X = (RecM.zeroN, k)) {z : List Value} (hz : z = Rec.ntC RecM.zeroN Rec.nilV) {w' : World} (H : LS B w0 w' p pf pt fr σ Ps) : ReadD B w0 p pf pt fr σ Ps X (.returned (.tuple #[.agg z.toArray, errL k])) w' := by
  subst hX hz
  exact ⟨(none, 0, []), rfl, rfl, (ab_nil H).weak (fun _ h => given_ab h)⟩
set_option maxRecDepth 6000 in
set_option maxHeartbeats 32000000 in
theorem read_any (H : LS B w0 w p pf pt fr σ Ps) (hm : LgOk fr σ N) (hN : N ≤ 9000) (x : Plc) (hs : i64L x.seg) (hp : i64L x.page) (hps : i64L x.pages) :
    Calls Tryz.prog 9 #[ptr p, .agg #[.int .i64 x.seg, .int .i64 x.page, .int .i64 x.pages]] w (ReadD B w0 p pf pt fr σ Ps (readL fr σ x)) := by
  obtain ⟨X, hX⟩ : ∃ X, X = readL fr σ x := ⟨_, rfl⟩
  rw [← hX]
  unfold readL at hX
  obtain ⟨sg, pg, ps⟩ := x
  simp only at hX hs hp hps ⊢
  obtain ⟨q, nx, hl, H1⟩ := A_to H
  have HLR := Lib.hid hl
  obtain ⟨cs, hcs⟩ : ∃ cs, cs = plcV sg pg ps := ⟨_, rfl⟩
  have PE : Hid ((#[.int .i64 sg, .int .i64 pg, .int .i64 ps] : Array Value) = cs.toArray) := by rw [hcs]; exact rfl
  obtain ⟨z, hz⟩ : ∃ z, z = Rec.ntC RecM.zeroN Rec.nilV := ⟨_, rfl⟩
  have ZB : Hid ((Tryz.prog.info? 39).bind (·.zero) = some (.agg z.toArray)) := by rw [hz]; exact Rec.zero_note
  have BZ : Hid (Tryz.prog.built 39 [] = some z.toArray) := by rw [hz]; exact Rec.built_note0
  have ZL : Hid (z.length = 37) := by show _ = _; rw [hz]; rfl
  have Z1 : Hid (∀ v ∈ z, v.oneCell' = true) := by rw [hz]; exact Rec.ntC_one rfl
  have HZ := Lib.hid hz
  obtain ⟨b3, hb3⟩ : ∃ b, b = w.heap.size := ⟨_, rfl⟩
  obtain ⟨W1, hW1⟩ : ∃ W, W = w.alloc (.cells cs.toArray 41) := ⟨_, rfl⟩
  have h1 := H1.boxV 41 cs
  rw [← hb3, ← hW1] at h1
  obtain ⟨b4, hb4⟩ : ∃ b, b = W1.heap.size := ⟨_, rfl⟩
  obtain ⟨W2, hW2⟩ : ∃ W, W = W1.alloc (.cells z.toArray 39) := ⟨_, rfl⟩
  have h2 := (back1 h1).boxV 39 z
  rw [← hb4, ← hW2] at h2
  have H2 : Hid (S3 B w0 W2 (AL p pf pt fr q nx) pf pt σ.fs σ.tb ([AVals b4 39 z, AVals b3 41 cs] ++ Ps)) := back1 h2
  have HB3 := Lib.hid hb3
  have HW1 := Lib.hid hW1
  have HB4 := Lib.hid hb4
  have HW2 := Lib.hid hW2
  have P0 : Hid (∀ wx, Below W2.heap.size W2 wx → wx.cell? ⟨b3, 0, none⟩ = some (.int .i64 sg)) := fun wx hwx => ((H2.out.later hwx).cellV 4 rfl 0 (by rw [hcs]; rfl)).1
  have P1 : Hid (∀ wx, Below W2.heap.size W2 wx → wx.cell? ⟨b3, 1, none⟩ = some (.int .i64 pg)) := fun wx hwx => ((H2.out.later hwx).cellV 4 rfl 1 (by rw [hcs]; rfl)).1
  have P2 : Hid (∀ wx, Below W2.heap.size W2 wx → wx.cell? ⟨b3, 2, none⟩ = some (.int .i64 ps)) := fun wx hwx => ((H2.out.later hwx).cellV 4 rfl 2 (by rw [hcs]; rfl)).1
  have D0 : Hid (∀ wx, Below W2.heap.size W2 wx → wx.cell? ⟨p, 0, none⟩ = some (ptr pf)) := fun wx hwx => ((H2.out.later hwx).cellV 0 rfl 0 rfl).1
  have CH : Hid (∀ wx, Below W2.heap.size W2 wx → Calls Tryz.prog 25 #[ptr p, .int .i64 sg] wx fun e w' => e = .returned (.bool (hasB σ.tb sg)) ∧ Below wx.heap.size wx w') := fun wx hwx => hasSeg_any (H2.out.later hwx) hm.tb (by omega) sg
  obtain ⟨pp, hpe⟩ : ∃ x, x = σ.fs.pp := ⟨_, rfl⟩
  have CG : Hid (∀ wx, Below W2.heap.size W2 wx → Calls Tryz.prog 19 #[ptr pf] wx fun e w' => e = .returned (.int .i64 (pp : Int)) ∧ Below wx.heap.size wx w') := fun wx hwx => by rw [hpe]; exact f_pages (H2.out.later hwx)
  have HX := Lib.hid hX
  have HM := Lib.hid hm
  have HPE := Lib.hid hpe
  have HCS := Lib.hid hcs
  have hpp := hm.fs.pp
  rw [← hpe] at hpp
  unfold i64L at hs hp hps
  clear hX H H1 hm hl hpe hcs hz hb3 hW1 h1 hb4 hW2 h2
  by_cases hb : hasB σ.tb sg = true
  · rw [hb] at CH
    unfold hasB at hb
    simp only [Bool.and_eq_true, decide_eq_true_eq] at hb
    have hb1 := hb.1
    have hb2 := hb.2
    by_cases hp1 : pg < 1
    · have T1 := Lib.hid hp1
      have HE : Hid (X = (RecM.zeroN, 1)) := by show X = _; rw [HX.out, if_pos (.inr (.inr (.inl hp1)))]
      clear HX hb hb1 hb2 hp1 HM
      go_enter Tryz.func9, Tryz.ntmps9
      go_wp2_with (refine Own.wpList_allocZ rfl 39 rfl z.toArray ZB.out ?_; rw [PE.out, ← HW1.out, ← HB4.out, ← HW2.out, ← HB3.out])
      refine lxX ?_; refine lxM (ptr p) rfl ?_; refine lxA (.tmp 3) (.pointer (some ⟨b3, 0, none⟩)) (.pointer (some ⟨b3, 0, none⟩)) ?_; refine lxR (.tmp 14) (.pointer (some ⟨b3, 0, none⟩)) (.int .i64 sg) (fun wx ρ hwx h0 hc => by simp [h0, go_sem, P0.out wx hwx]) ?_
      refine wpL_fn (.bool true) [ptr p, .int .i64 sg] rfl (by kernel_rfl) (by kernel_rfl) (by kernel_rfl) (by kernel_rfl) (fun _ _ => by simp [go_sem]) (fun wx hwx => CH.out wx hwx) ?_
      refine lxA (.tmp 16) (.bool true) (.bool false) ?_; refine lxM (.bool false) rfl ?_; refine lxA (.tmp 3) (.pointer (some ⟨b3, 0, none⟩)) (.pointer (some ⟨b3, 1, none⟩)) ?_; refine lxR (.tmp 19) (.pointer (some ⟨b3, 1, none⟩)) (.int .i64 pg) (fun wx ρ hwx h0 hc => by simp [h0, go_sem, P1.out wx hwx]) ?_; refine lxR (.tmp 20) (.int .i64 pg) (.bool true) (fun wx ρ hwx h0 hc => by simp [h0, hc, go_sem, T1.out]) ?_; refine lxB (.tmp 18) (.tmp 21) (.bool false) (.bool true) (.bool true) ?_; refine lxM (.bool true) rfl ?_; refine lxS ?_; refine lxS ?_; refine lxS ?_; refine lxR (.tmp 23) (.bool true) (.bool true) (fun wx ρ hwx h0 hc => by simp [go_sem, h0, hc]) ?_; refine lxM (.bool true) rfl ?_; refine lxS ?_; refine lxS ?_; refine lxS ?_; refine lxS ?_; refine lxS ?_; refine lxS ?_; refine lxS ?_; refine lxS ?_; refine lxS ?_; refine lxS ?_; refine lxS ?_; refine lxR (.tmp 28) (.bool true) (.bool true) (fun wx ρ hwx h0 hc => by simp [go_sem, h0, hc]) ?_
      refine wpL_end (by kernel_rfl) (fun w3 hw3 => ?_)
      simp only [FinL, setL, List.set_cons_zero, List.set_cons_succ]
      have H3 := Lib.hid (H2.out.later hw3)
      clear P0 P1 P2 CH D0 CG hw3 H2
      go_wp2_with (first
        | (refine Own.wpList_built rfl 39 #[] rfl z.toArray ?_ ?_; · (simp only [List.map_toArray, List.map_nil, List.toList_toArray]; exact BZ.out))
        | (refine wpList_fill Lga.boxy_note rfl (.tmp 4) (.tmp 41) rfl rfl H3.out 3 rfl ZL.out z rfl rfl ZL.out Z1.out ?_; intro w7 h; simp only [List.set_cons_succ] at h; have H7 := Lib.hid h; clear h))
      refine bodyPost_ret (results_cell_two rfl _ _ b4 39 _ (0, 0) _ _ rfl rfl (H7.out.rowV 3 rfl) Tryz.underlying39 rfl (Rec.info_note z ZL.out)) rfl ?_
      exact read_none HE.out HZ.out (A_of HLR.out (dropMid [_, _] H7.out))
    by_cases hp2 : ps < 1
    · have T1 := Lib.hid hp1
      have T2 := Lib.hid hp2
      have HE : Hid (X = (RecM.zeroN, 1)) := by show X = _; rw [HX.out, if_pos (.inr (.inr (.inr (.inl hp2))))]
      clear HX hb hb1 hb2 hp1 hp2 HM
      go_enter Tryz.func9, Tryz.ntmps9
      go_wp2_with (refine Own.wpList_allocZ rfl 39 rfl z.toArray ZB.out ?_; rw [PE.out, ← HW1.out, ← HB4.out, ← HW2.out, ← HB3.out])
      refine lxX ?_; refine lxM (ptr p) rfl ?_; refine lxA (.tmp 3) (.pointer (some ⟨b3, 0, none⟩)) (.pointer (some ⟨b3, 0, none⟩)) ?_; refine lxR (.tmp 14) (.pointer (some ⟨b3, 0, none⟩)) (.int .i64 sg) (fun wx ρ hwx h0 hc => by simp [h0, go_sem, P0.out wx hwx]) ?_
      refine wpL_fn (.bool true) [ptr p, .int .i64 sg] rfl (by kernel_rfl) (by kernel_rfl) (by kernel_rfl) (by kernel_rfl) (fun _ _ => by simp [go_sem]) (fun wx hwx => CH.out wx hwx) ?_
      refine lxA (.tmp 16) (.bool true) (.bool false) ?_; refine lxM (.bool false) rfl ?_; refine lxA (.tmp 3) (.pointer (some ⟨b3, 0, none⟩)) (.pointer (some ⟨b3, 1, none⟩)) ?_; refine lxR (.tmp 19) (.pointer (some ⟨b3, 1, none⟩)) (.int .i64 pg) (fun wx ρ hwx h0 hc => by simp [h0, go_sem, P1.out wx hwx]) ?_; refine lxR (.tmp 20) (.int .i64 pg) (.bool false) (fun wx ρ hwx h0 hc => by simp [h0, hc, go_sem, T1.out]) ?_; refine lxB (.tmp 18) (.tmp 21) (.bool false) (.bool false) (.bool false) ?_; refine lxM (.bool false) rfl ?_; refine lxA (.tmp 3) (.pointer (some ⟨b3, 0, none⟩)) (.pointer (some ⟨b3, 2, none⟩)) ?_; refine lxR (.tmp 24) (.pointer (some ⟨b3, 2, none⟩)) (.int .i64 ps) (fun wx ρ hwx h0 hc => by simp [h0, go_sem, P2.out wx hwx]) ?_; refine lxR (.tmp 25) (.int .i64 ps) (.bool true) (fun wx ρ hwx h0 hc => by simp [h0, hc, go_sem, T2.out]) ?_; refine lxB (.tmp 23) (.tmp 26) (.bool false) (.bool true) (.bool true) ?_; refine lxM (.bool true) rfl ?_; refine lxS ?_; refine lxS ?_; refine lxS ?_; refine lxS ?_; refine lxS ?_; refine lxS ?_; refine lxS ?_; refine lxS ?_; refine lxS ?_; refine lxS ?_; refine lxS ?_; refine lxR (.tmp 28) (.bool true) (.bool true) (fun wx ρ hwx h0 hc => by simp [go_sem, h0, hc]) ?_
      refine wpL_end (by kernel_rfl) (fun w3 hw3 => ?_)
      simp only [FinL, setL, List.set_cons_zero, List.set_cons_succ]
      have H3 := Lib.hid (H2.out.later hw3)
      clear P0 P1 P2 CH D0 CG hw3 H2
      go_wp2_with (first
        | (refine Own.wpList_built rfl 39 #[] rfl z.toArray ?_ ?_; · (simp only [List.map_toArray, List.map_nil, List.toList_toArray]; exact BZ.out))
        | (refine wpList_fill Lga.boxy_note rfl (.tmp 4) (.tmp 41) rfl rfl H3.out 3 rfl ZL.out z rfl rfl ZL.out Z1.out ?_; intro w7 h; simp only [List.set_cons_succ] at h; have H7 := Lib.hid h; clear h))
      refine bodyPost_ret (results_cell_two rfl _ _ b4 39 _ (0, 0) _ _ rfl rfl (H7.out.rowV 3 rfl) Tryz.underlying39 rfl (Rec.info_note z ZL.out)) rfl ?_
      exact read_none HE.out HZ.out (A_of HLR.out (dropMid [_, _] H7.out))
    obtain ⟨df, hdf⟩ : ∃ d : Int, d = (pp : Int) - pg := ⟨_, rfl⟩
    have DF : Hid (IntKind.i64.wrap ((pp : Int) - pg) = df) := (IntWalk.i64_in _ (by omega)).trans hdf.symm
    by_cases hp3 : ps > df
    · have T1 := Lib.hid hp1
      have T2 := Lib.hid hp2
      have T3 : Hid (df < ps) := hp3
      have HE : Hid (X = (RecM.zeroN, 1)) := by show X = _; rw [HX.out, if_pos (.inr (.inr (.inr (.inr (.inr (by rw [← HPE.out]; omega))))))]
      clear HX hb hb1 hb2 hp1 hp2 hp3 HM hdf
      go_enter Tryz.func9, Tryz.ntmps9
      go_wp2_with (refine Own.wpList_allocZ rfl 39 rfl z.toArray ZB.out ?_; rw [PE.out, ← HW1.out, ← HB4.out, ← HW2.out, ← HB3.out])
      refine lxX ?_; refine lxM (ptr p) rfl ?_; refine lxA (.tmp 3) (.pointer (some ⟨b3, 0, none⟩)) (.pointer (some ⟨b3, 0, none⟩)) ?_; refine lxR (.tmp 14) (.pointer (some ⟨b3, 0, none⟩)) (.int .i64 sg) (fun wx ρ hwx h0 hc => by simp [h0, go_sem, P0.out wx hwx]) ?_
      refine wpL_fn (.bool true) [ptr p, .int .i64 sg] rfl (by kernel_rfl) (by kernel_rfl) (by kernel_rfl) (by kernel_rfl) (fun _ _ => by simp [go_sem]) (fun wx hwx => CH.out wx hwx) ?_
      refine lxA (.tmp 16) (.bool true) (.bool false) ?_; refine lxM (.bool false) rfl ?_; refine lxA (.tmp 3) (.pointer (some ⟨b3, 0, none⟩)) (.pointer (some ⟨b3, 1, none⟩)) ?_; refine lxR (.tmp 19) (.pointer (some ⟨b3, 1, none⟩)) (.int .i64 pg) (fun wx ρ hwx h0 hc => by simp [h0, go_sem, P1.out wx hwx]) ?_; refine lxR (.tmp 20) (.int .i64 pg) (.bool false) (fun wx ρ hwx h0 hc => by simp [h0, hc, go_sem, T1.out]) ?_; refine lxB (.tmp 18) (.tmp 21) (.bool false) (.bool false) (.bool false) ?_; refine lxM (.bool false) rfl ?_; refine lxA (.tmp 3) (.pointer (some ⟨b3, 0, none⟩)) (.pointer (some ⟨b3, 2, none⟩)) ?_; refine lxR (.tmp 24) (.pointer (some ⟨b3, 2, none⟩)) (.int .i64 ps) (fun wx ρ hwx h0 hc => by simp [h0, go_sem, P2.out wx hwx]) ?_; refine lxR (.tmp 25) (.int .i64 ps) (.bool false) (fun wx ρ hwx h0 hc => by simp [h0, hc, go_sem, T2.out]) ?_; refine lxB (.tmp 23) (.tmp 26) (.bool false) (.bool false) (.bool false) ?_; refine lxM (.bool false) rfl ?_; refine lxA (.tmp 3) (.pointer (some ⟨b3, 0, none⟩)) (.pointer (some ⟨b3, 2, none⟩)) ?_; refine lxR (.tmp 29) (.pointer (some ⟨b3, 2, none⟩)) (.int .i64 ps) (fun wx ρ hwx h0 hc => by simp [h0, go_sem, P2.out wx hwx]) ?_; refine lxM (ptr p) rfl ?_; refine lxA (.tmp 31) (ptr p) (ptr p) ?_; refine lxA (.tmp 32) (ptr p) (.pointer (some ⟨p, 0, none⟩)) ?_; refine lxR (.tmp 33) (.pointer (some ⟨p, 0, none⟩)) (ptr pf) (fun wx ρ hwx h0 hc => by simp [h0, go_sem, D0.out wx hwx]) ?_
      refine wpL_fn (.int .i64 (pp : Int)) [ptr pf] rfl (by kernel_rfl) (by kernel_rfl) (by kernel_rfl) (by kernel_rfl) (fun _ _ => by simp [go_sem]) (fun wx hwx => CG.out wx hwx) ?_
      refine lxA (.tmp 3) (.pointer (some ⟨b3, 0, none⟩)) (.pointer (some ⟨b3, 1, none⟩)) ?_; refine lxR (.tmp 36) (.pointer (some ⟨b3, 1, none⟩)) (.int .i64 pg) (fun wx ρ hwx h0 hc => by simp [h0, go_sem, P1.out wx hwx]) ?_; refine lxT (.tmp 35) (.tmp 37) (.int .i64 (pp : Int)) (.int .i64 pg) (.int .i64 df) (fun wx ρ hwx h0 h1 hc => by simp [h0, h1, go_sem, DF.out]) ?_; refine lxT (.tmp 30) (.tmp 38) (.int .i64 ps) (.int .i64 df) (.bool true) (fun wx ρ hwx h0 h1 hc => by simp [h0, h1, go_sem, T3.out]) ?_; refine lxB (.tmp 28) (.tmp 39) (.bool false) (.bool true) (.bool true) ?_
      refine wpL_end (by kernel_rfl) (fun w3 hw3 => ?_)
      simp only [FinL, setL, List.set_cons_zero, List.set_cons_succ]
      have H3 := Lib.hid (H2.out.later hw3)
      clear P0 P1 P2 CH D0 CG hw3 H2
      go_wp2_with (first
        | (refine Own.wpList_built rfl 39 #[] rfl z.toArray ?_ ?_; · (simp only [List.map_toArray, List.map_nil, List.toList_toArray]; exact BZ.out))
        | (refine wpList_fill Lga.boxy_note rfl (.tmp 4) (.tmp 41) rfl rfl H3.out 3 rfl ZL.out z rfl rfl ZL.out Z1.out ?_; intro w7 h; simp only [List.set_cons_succ] at h; have H7 := Lib.hid h; clear h))
      refine bodyPost_ret (results_cell_two rfl _ _ b4 39 _ (0, 0) _ _ rfl rfl (H7.out.rowV 3 rfl) Tryz.underlying39 rfl (Rec.info_note z ZL.out)) rfl ?_
      exact read_none HE.out HZ.out (A_of HLR.out (dropMid [_, _] H7.out))
    obtain ⟨g, rfl⟩ : ∃ g : Nat, sg = (g : Int) := ⟨sg.toNat, by omega⟩
    obtain ⟨a, rfl⟩ : ∃ g : Nat, pg = (g : Int) := ⟨pg.toNat, by omega⟩
    obtain ⟨m, rfl⟩ : ∃ g : Nat, ps = (g : Int) := ⟨ps.toNat, by omega⟩
    have T1 := Lib.hid hp1
    have T2 := Lib.hid hp2
    have T3 : Hid (¬ df < (m : Int)) := by show ¬ _; omega
    have hks : fr + g < σ.fs.safe.length := by have := HM.out.room; omega
    have ham : a + m ≤ pp := by omega
    have ha1 : 1 ≤ a := by omega
    have hm1 : 1 ≤ m := by omega
    have hX2 := HX.out
    rw [if_neg (by rw [← HPE.out]; omega)] at hX2
    simp only [Int.toNat_natCast] at hX2
    obtain ⟨L, hL⟩ : ∃ L, L = segPages σ.fs (fr + g) := ⟨_, rfl⟩
    have hLl : L.length = pp := by rw [hL, HPE.out]; exact seg_len _ _
    have hL128 : ∀ x ∈ L, x.length ≤ 1000000 := by
      rw [hL]
      intro x hx
      unfold segPages at hx
      obtain ⟨j, hj, rfl⟩ := List.mem_map.1 hx
      rw [List.mem_range] at hj
      exact Nat.le_trans (Nat.le_of_eq (now_len HM.out.fs (fr + g) j hks hj)) (by decide)
    rw [← hL] at hX2
    have CL : Hid (∀ wx Qs, S3 B w0 wx (AL p pf pt fr q nx) pf pt σ.fs σ.tb Qs → Calls Tryz.prog 26 #[ptr p, .int .i64 (g : Int)] wx fun e w' => LoadD σ.fs.off pp L e w' ∧ S3 B w0 w' (AL p pf pt fr q nx) pf pt σ.fs σ.tb Qs) := fun wx Qs h => by
      rw [HPE.out, hL]
      exact load_any h HM.out.fs (by omega) g (fr + g) rfl hks
    have HX2 := Lib.hid hX2
    have HLL := Lib.hid hLl
    have HL128 := Lib.hid hL128
    clear HX hX2 hb hL hLl hL128 HM hb1 hb2 hp1 hp2 hp3 hdf hs hp hps
    go_enter Tryz.func9, Tryz.ntmps9
    go_wp2_with (refine Own.wpList_allocZ rfl 39 rfl z.toArray ZB.out ?_; rw [PE.out, ← HW1.out, ← HB4.out, ← HW2.out, ← HB3.out])
    refine lxX ?_; refine lxM (ptr p) rfl ?_; refine lxA (.tmp 3) (.pointer (some ⟨b3, 0, none⟩)) (.pointer (some ⟨b3, 0, none⟩)) ?_; refine lxR (.tmp 14) (.pointer (some ⟨b3, 0, none⟩)) (.int .i64 (g : Int)) (fun wx ρ hwx h0 hc => by simp [h0, go_sem, P0.out wx hwx]) ?_
    refine wpL_fn (.bool true) [ptr p, .int .i64 (g : Int)] rfl (by kernel_rfl) (by kernel_rfl) (by kernel_rfl) (by kernel_rfl) (fun _ _ => by simp [go_sem]) (fun wx hwx => CH.out wx hwx) ?_
    refine lxA (.tmp 16) (.bool true) (.bool false) ?_; refine lxM (.bool false) rfl ?_; refine lxA (.tmp 3) (.pointer (some ⟨b3, 0, none⟩)) (.pointer (some ⟨b3, 1, none⟩)) ?_; refine lxR (.tmp 19) (.pointer (some ⟨b3, 1, none⟩)) (.int .i64 (a : Int)) (fun wx ρ hwx h0 hc => by simp [h0, go_sem, P1.out wx hwx]) ?_; refine lxR (.tmp 20) (.int .i64 (a : Int)) (.bool false) (fun wx ρ hwx h0 hc => by simp [h0, hc, go_sem, T1.out]) ?_; refine lxB (.tmp 18) (.tmp 21) (.bool false) (.bool false) (.bool false) ?_; refine lxM (.bool false) rfl ?_; refine lxA (.tmp 3) (.pointer (some ⟨b3, 0, none⟩)) (.pointer (some ⟨b3, 2, none⟩)) ?_; refine lxR (.tmp 24) (.pointer (some ⟨b3, 2, none⟩)) (.int .i64 (m : Int)) (fun wx ρ hwx h0 hc => by simp [h0, go_sem, P2.out wx hwx]) ?_; refine lxR (.tmp 25) (.int .i64 (m : Int)) (.bool false) (fun wx ρ hwx h0 hc => by simp [h0, hc, go_sem, T2.out]) ?_; refine lxB (.tmp 23) (.tmp 26) (.bool false) (.bool false) (.bool false) ?_; refine lxM (.bool false) rfl ?_; refine lxA (.tmp 3) (.pointer (some ⟨b3, 0, none⟩)) (.pointer (some ⟨b3, 2, none⟩)) ?_; refine lxR (.tmp 29) (.pointer (some ⟨b3, 2, none⟩)) (.int .i64 (m : Int)) (fun wx ρ hwx h0 hc => by simp [h0, go_sem, P2.out wx hwx]) ?_; refine lxM (ptr p) rfl ?_; refine lxA (.tmp 31) (ptr p) (ptr p) ?_; refine lxA (.tmp 32) (ptr p) (.pointer (some ⟨p, 0, none⟩)) ?_; refine lxR (.tmp 33) (.pointer (some ⟨p, 0, none⟩)) (ptr pf) (fun wx ρ hwx h0 hc => by simp [h0, go_sem, D0.out wx hwx]) ?_
    refine wpL_fn (.int .i64 (pp : Int)) [ptr pf] rfl (by kernel_rfl) (by kernel_rfl) (by kernel_rfl) (by kernel_rfl) (fun _ _ => by simp [go_sem]) (fun wx hwx => CG.out wx hwx) ?_
    refine lxA (.tmp 3) (.pointer (some ⟨b3, 0, none⟩)) (.pointer (some ⟨b3, 1, none⟩)) ?_; refine lxR (.tmp 36) (.pointer (some ⟨b3, 1, none⟩)) (.int .i64 (a : Int)) (fun wx ρ hwx h0 hc => by simp [h0, go_sem, P1.out wx hwx]) ?_; refine lxT (.tmp 35) (.tmp 37) (.int .i64 (pp : Int)) (.int .i64 (a : Int)) (.int .i64 df) (fun wx ρ hwx h0 h1 hc => by simp [h0, h1, go_sem, DF.out]) ?_; refine lxT (.tmp 30) (.tmp 38) (.int .i64 (m : Int)) (.int .i64 df) (.bool false) (fun wx ρ hwx h0 h1 hc => by simp [h0, h1, go_sem, T3.out]) ?_; refine lxB (.tmp 28) (.tmp 39) (.bool false) (.bool false) (.bool false) ?_
    refine wpL_end (by kernel_rfl) (fun w3 hw3 => ?_)
    simp only [FinL, setL, List.set_cons_zero, List.set_cons_succ]
    have H3 := Lib.hid (H2.out.later hw3)
    have d0 := P0.out w3 hw3
    clear P0 P1 P2 CH D0 CG hw3 H2 T1 T2 T3 DF
    go_wp2_with (fail)
    refine (CL.out _ _ H3.out).mono ?_
    clear CL H3 d0
    rintro e w4 ⟨hld, h4⟩
    have H4 := Lib.hid h4
    clear h4
    rcases hld with ⟨hoff, rfl⟩ | ⟨al, hoff, rfl, hgl⟩
    · have HE : Hid (X = (RecM.zeroN, 6)) := by show X = _; rw [HX2.out, if_pos hoff]
      clear HX2 hoff
      go_wp2_with (first
        | (refine Own.wpList_built rfl 39 #[] rfl z.toArray ?_ ?_; · (simp only [List.map_toArray, List.map_nil, List.toList_toArray]; exact BZ.out))
        | (refine wpList_fill Lga.boxy_note rfl (.tmp 4) (.tmp 51) rfl rfl H4.out 3 rfl ZL.out z rfl rfl ZL.out Z1.out ?_; intro w7 h; simp only [List.set_cons_succ] at h; have H7 := Lib.hid h; clear h))
      refine bodyPost_ret (results_cell_two rfl _ _ b4 39 _ (0, 0) _ _ rfl rfl (H7.out.rowV 3 rfl) Tryz.underlying39 rfl (Rec.info_note z ZL.out)) rfl ?_
      exact read_none HE.out HZ.out (A_of HLR.out (dropMid [_, _] H7.out))
    · have hX3 := HX2.out
      rw [if_neg (by rw [hoff]; decide)] at hX3
      have hdt : (L.drop a).take m = (L.take (a + m)).drop a := by rw [List.drop_take]; congr 1; omega
      rw [hdt] at hX3
      have CN := noteAt_any al pp pp L a (a + m) w4 hgl (by omega) HL128.out (by omega) ham
      obtain ⟨Y, hY⟩ : ∃ Y, Y = resN (note1 ((L.take (a + m)).drop a)) := ⟨_, rfl⟩
      have hX4 : X = if Y.2 = m then (Y.1, 0) else (RecM.zeroN, 120) := by
        rw [hX3, hY]
        cases note1 ((L.take (a + m)).drop a) with
        | none => unfold resN; simp only [Option.getD_none]; rw [if_neg (by omega)]
        | some x =>
          obtain ⟨n, k⟩ := x
          unfold resN
          simp only [Option.getD_some]
          by_cases h : k = m
          · rw [if_pos (by omega), if_pos h]
          · rw [if_neg (by omega), if_neg h]
      have hys : Y.1.sum.length = 32 := by
        rw [hY]
        cases hc : note1 ((L.take (a + m)).drop a) with
        | none => unfold resN; simp [RecM.zeroN, RecM.zsum]
        | some x => obtain ⟨n, k⟩ := x; exact (note1_fits hc).1.sum
      have hyk : Y.2 ≤ 64 := by
        rw [hY]
        cases hc : note1 ((L.take (a + m)).drop a) with
        | none => exact Nat.zero_le _
        | some x =>
          obtain ⟨n, k⟩ := x
          have := (note1_size hc).2
          rw [List.length_drop, List.length_take] at this
          show k ≤ 64
          omega
      rw [← hY] at CN
      obtain ⟨nt, u⟩ := Y
      simp only at hX4 hys hyk
      unfold NoteDone at CN
      simp only at CN
      obtain ⟨dl, hdl⟩ : ∃ x, x = nt.data.length := ⟨_, rfl⟩
      rw [← hdl] at CN
      rw [show ((a + m : Nat) : Int) = (a : Int) + (m : Int) by omega] at CN
      have CN2 : Hid (Calls Tryz.prog 27 #[.slice al pp pp, .int .i64 (a : Int), .int .i64 ((a : Int) + (m : Int))] w4 fun e w' => ∃ (c9 : List Value) (ad : Option Addr) (cd : Nat), c9 = Rec.ntC nt (.slice ad dl cd) ∧ e = .returned (.tuple #[.agg c9.toArray, .int .i64 (u : Int)]) ∧ Given w' ad dl cd nt.data ∧ View w' (fun k => w4.heap.size ≤ k) ad nt.data ∧ Below w4.heap.size w4 w') := CN.mono fun e w' ⟨ad, cd, h1, h2, h3, h4⟩ => ⟨_, ad, cd, rfl, h1, h2, h3, h4⟩
      have HX4 := Lib.hid hX4
      have HYS := Lib.hid hys
      have HDL := Lib.hid hdl
      have C1 : Hid (∀ wx Qs, Own.St B w0 wx (Qs ++ (AL p pf pt fr q nx :: Fla.AFl pf σ.fs :: Tba.A pt σ.tb :: ([AVals b4 39 z, AVals b3 41 cs] ++ Ps))) → wx.cell? ⟨b3, 1, none⟩ = some (.int .i64 (a : Int)) ∧ wx.cell? ⟨b3, 2, none⟩ = some (.int .i64 (m : Int))) := fun wx Qs h => by
        have h5 := h.drop Qs.length
        rw [List.drop_left] at h5
        exact ⟨(h5.cellV 4 rfl 1 (by rw [HCS.out]; rfl)).1, (h5.cellV 4 rfl 2 (by rw [HCS.out]; rfl)).1⟩
      obtain ⟨d1, d2⟩ := C1.out w4 [] H4.out
      clear HX2 hX3 hdt CN hY hX4 hys hdl hoff hgl
      go_wp2_with (fail)
      refine CN2.out.mono ?_
      clear CN2 d1 d2
      rintro e w5 ⟨c9, ad, cd, hc9, rfl, hg5, hv5, hb5⟩
      have h6 := H4.out.adoptView hb5 hv5
      have H6 := Lib.hid (h6.weak (Q := AGivens [(ad, cd, nt.data)]) (fun _ h => view_given h (by rw [hg5.size]; exact hg5.room.1) hg5.room.2 hg5.nil))
      have CSL : Hid (c9.length = 37) := by show _ = 37; rw [hc9]; exact Rec.ntC_len _ _ HYS.out
      have CS1 : Hid (∀ v ∈ c9, v.oneCell' = true) := by rw [hc9]; exact Rec.ntC_one rfl
      have HC9 := Lib.hid hc9
      clear hc9 hg5 hv5 hb5 h6 H4
      by_cases hum : u = m
      · have g1 : ((u : Int) != (m : Int)) = false := by simp [hum]
        have HE : Hid (X = (nt, 0)) := by show X = _; rw [HX4.out, if_pos hum]
        clear HX4 hum
        go_wp2_with (first
          | (refine wpList_box2 Lga.boxy_note rfl rfl rfl (.tmp 8) (.tmp 63) rfl rfl c9 (fun _ => rfl) (fun _ => rfl) CSL.out CS1.out H6.out ?_; intro b8 w6 h; have H8 := Lib.hid h; obtain ⟨d1, d2⟩ := C1.out w6 [_, _] h; clear h)
          | (refine wpList_val rfl (Rec.load_note c9 CSL.out rfl _ (b := b8) (k := 0) (H8.out.boxRange 0 rfl) rfl) ?_)
          | (refine wpList_fill Lga.boxy_note rfl (.tmp 4) (.tmp 70) rfl rfl H8.out 5 rfl ZL.out c9 rfl rfl CSL.out CS1.out ?_; intro w7 h; simp only [List.set_cons_succ] at h; have H7 := Lib.hid h; clear h))
        refine bodyPost_ret (results_cell_two rfl _ _ b4 39 _ (0, 0) _ _ rfl rfl (H7.out.rowV 5 rfl) Tryz.underlying39 rfl (Rec.info_note c9 CSL.out)) rfl ?_
        rw [HE.out]
        refine ⟨(ad, cd, nt.data), rfl, ?_, ?_⟩
        · rw [HC9.out, HDL.out]; rfl
        · have h8 := H7.out.drop 1
          simp only [List.drop_succ_cons, List.drop_zero] at h8
          have h9 := dropMid4 [_, _] h8
          exact (A_of HLR.out h9.swap2 |> fun h => h).swap2
      · have g1 : ((u : Int) != (m : Int)) = true := by simp; omega
        have HE : Hid (X = (RecM.zeroN, 120)) := by show X = _; rw [HX4.out, if_neg hum]
        clear HX4 hum
        go_wp2_with (first
          | (refine wpList_box2 Lga.boxy_note rfl rfl rfl (.tmp 8) (.tmp 63) rfl rfl c9 (fun _ => rfl) (fun _ => rfl) CSL.out CS1.out H6.out ?_; intro b8 w6 h; have H8 := Lib.hid h; obtain ⟨d1, d2⟩ := C1.out w6 [_, _] h; clear h)
          | (refine Own.wpList_built rfl 39 #[] rfl z.toArray ?_ ?_; · (simp only [List.map_toArray, List.map_nil, List.toList_toArray]; exact BZ.out))
          | (refine wpList_fill Lga.boxy_note rfl (.tmp 4) (.tmp 69) rfl rfl H8.out 5 rfl ZL.out z rfl rfl ZL.out Z1.out ?_; intro w7 h; simp only [List.set_cons_succ] at h; have H7 := Lib.hid h; clear h))
        refine bodyPost_ret (results_cell_two rfl _ _ b4 39 _ (0, 0) _ _ rfl rfl (H7.out.rowV 5 rfl) Tryz.underlying39 rfl (Rec.info_note z ZL.out)) rfl ?_
        exact read_none HE.out HZ.out (A_of HLR.out (dropMid [_, _] (H7.out.drop 2)))
  · have hb' : hasB σ.tb sg = false := by simpa using hb
    rw [hb'] at CH
    have HE : Hid (X = (RecM.zeroN, 1)) := by
      show X = _
      unfold hasB at hb
      rw [HX.out, if_pos]
      simp only [Bool.and_eq_true, decide_eq_true_eq] at hb
      omega
    clear HX hb hb' HM
    go_enter Tryz.func9, Tryz.ntmps9
    go_wp2_with (refine Own.wpList_allocZ rfl 39 rfl z.toArray ZB.out ?_; rw [PE.out, ← HW1.out, ← HB4.out, ← HW2.out, ← HB3.out])
    refine lxX ?_; refine lxM (ptr p) rfl ?_; refine lxA (.tmp 3) (.pointer (some ⟨b3, 0, none⟩)) (.pointer (some ⟨b3, 0, none⟩)) ?_; refine lxR (.tmp 14) (.pointer (some ⟨b3, 0, none⟩)) (.int .i64 sg) (fun wx ρ hwx h0 hc => by simp [h0, go_sem, P0.out wx hwx]) ?_
    refine wpL_fn (.bool false) [ptr p, .int .i64 sg] rfl (by kernel_rfl) (by kernel_rfl) (by kernel_rfl) (by kernel_rfl) (fun _ _ => by simp [go_sem]) (fun wx hwx => CH.out wx hwx) ?_
    refine lxA (.tmp 16) (.bool false) (.bool true) ?_; refine lxM (.bool true) rfl ?_; refine lxS ?_; refine lxS ?_; refine lxS ?_; refine lxR (.tmp 18) (.bool true) (.bool true) (fun wx ρ hwx h0 hc => by simp [go_sem, h0, hc]) ?_; refine lxM (.bool true) rfl ?_; refine lxS ?_; refine lxS ?_; refine lxS ?_; refine lxR (.tmp 23) (.bool true) (.bool true) (fun wx ρ hwx h0 hc => by simp [go_sem, h0, hc]) ?_; refine lxM (.bool true) rfl ?_; refine lxS ?_; refine lxS ?_; refine lxS ?_; refine lxS ?_; refine lxS ?_; refine lxS ?_; refine lxS ?_; refine lxS ?_; refine lxS ?_; refine lxS ?_; refine lxS ?_; refine lxR (.tmp 28) (.bool true) (.bool true) (fun wx ρ hwx h0 hc => by simp [go_sem, h0, hc]) ?_
    refine wpL_end (by kernel_rfl) (fun w3 hw3 => ?_)
    simp only [FinL, setL, List.set_cons_zero, List.set_cons_succ]
    have H3 := Lib.hid (H2.out.later hw3)
    clear P0 P1 P2 CH D0 CG hw3 H2
    go_wp2_with (first
      | (refine Own.wpList_built rfl 39 #[] rfl z.toArray ?_ ?_; · (simp only [List.map_toArray, List.map_nil, List.toList_toArray]; exact BZ.out))
      | (refine wpList_fill Lga.boxy_note rfl (.tmp 4) (.tmp 41) rfl rfl H3.out 3 rfl ZL.out z rfl rfl ZL.out Z1.out ?_; intro w7 h; simp only [List.set_cons_succ] at h; have H7 := Lib.hid h; clear h))
    refine bodyPost_ret (results_cell_two rfl _ _ b4 39 _ (0, 0) _ _ rfl rfl (H7.out.rowV 3 rfl) Tryz.underlying39 rfl (Rec.info_note z ZL.out)) rfl ?_
    exact read_none HE.out HZ.out (A_of HLR.out (dropMid [_, _] H7.out))
end
end Lga
end Go.Proofs.YtmdphcebmgcdbaaGreat
end
section
namespace Go.Proofs.YtmdphcebmgcdbaaGreat
open Go.RowKit Go.Own
namespace Lga
open Go.LogM Byt
open Lg (gslV entC entsC i64L mayL plcA)
section
variable {B : Nat} {w0 w : World} {Ps : List Asn} {p pf pt fr : Nat} {σ : LG} {N : Nat}
set_option maxHeartbeats 4000000 in
theorem head_any (H : LS B w0 w p pf pt fr σ Ps) (hm : LgOk fr σ N) (hN : N ≤ 9000) :
    Calls Tryz.prog 14 #[ptr p] w fun e w' => e = .returned (.tuple #[.int .u64 ((headN σ).1 : Int), .int .i64 ((headN σ).2 : Int)]) ∧ LS B w0 w' p pf pt fr σ Ps := by
  obtain ⟨q, nx, hl, H1⟩ := A_to H
  have hpp := hm.fs.pp
  have CL := left_any H1 hm.tb (by omega) (by omega) hl.low
  rw [hl.left] at CL
  obtain ⟨R, hR⟩ : ∃ R, R = headN σ := ⟨_, rfl⟩
  rw [← hR]
  unfold headN at hR
  have HH := Lib.hid H1
  have HLR := Lib.hid hl
  cases hc : TabM.cur σ.tb with
  | none =>
    rw [hc] at hR CL
    simp only [Option.isSome_none, Bool.false_eq_true, if_false] at hR CL
    have CL1 := Lib.hid CL
    have HR := Lib.hid hR
    have CN : Hid (∀ wx, S3 B w0 wx (AL p pf pt fr q nx) pf pt σ.fs σ.tb Ps → Calls Tryz.prog 34 #[ptr pt] wx fun e w' => e = .returned (.int .u64 (σ.tb.next : Int)) ∧ Below wx.heap.size wx w') := fun wx h => t_next h hm.tb (by omega)
    clear H H1 hl hm CL hR hc
    go_enter Tryz.func14, Tryz.ntmps14
    go_wp2_with (fail)
    refine CL1.out.mono ?_
    clear CL1
    rintro e w1 ⟨rfl, hb1⟩
    have H2 := Lib.hid (HH.out.later hb1)
    have c2 := (H2.out.cellV 0 rfl 2 rfl).1
    clear hb1 HH
    go_wp2_with (fail)
    refine (CN.out _ H2.out).mono ?_
    clear CN c2
    rintro e w2 ⟨rfl, hb2⟩
    have H3 := Lib.hid (H2.out.later hb2)
    clear hb2 H2
    go_wp2
    go_ret2
    rw [HR.out]
    exact ⟨rfl, A_of HLR.out H3.out⟩
  | some i =>
    rw [hc] at hR CL
    simp only [Option.isSome_some, if_true] at hR CL
    by_cases ha : σ.a < σ.fs.pp
    · rw [if_pos ha] at hR
      obtain ⟨e1, e2⟩ := hl.here hc ha
      rw [e1, ← e2] at hR
      obtain ⟨k, hk⟩ : ∃ k, k = σ.fs.pp - σ.a := ⟨_, rfl⟩
      rw [← hk] at CL
      have hk0 : (k : Int) > 0 := by omega
      have CL1 := Lib.hid CL
      have HR := Lib.hid hR
      clear H H1 hl hm CL hR hc hk e1 e2
      go_enter Tryz.func14, Tryz.ntmps14
      go_wp2_with (fail)
      refine CL1.out.mono ?_
      clear CL1
      rintro e w1 ⟨rfl, hb1⟩
      have H2 := Lib.hid (HH.out.later hb1)
      have c3 := (H2.out.cellV 0 rfl 3 rfl).1
      have c4 := (H2.out.cellV 0 rfl 4 rfl).1
      clear hb1 HH
      go_wp2
      go_quiet (fail)
      go_wp2
      go_ret2
      rw [HR.out]
      exact ⟨rfl, A_of HLR.out (H2.out.drewN nq)⟩
    · rw [if_neg ha] at hR
      rw [show σ.fs.pp - σ.a = 0 by omega] at CL
      have CL1 := Lib.hid CL
      have HR := Lib.hid hR
      have CN : Hid (∀ wx, S3 B w0 wx (AL p pf pt fr q nx) pf pt σ.fs σ.tb Ps → Calls Tryz.prog 34 #[ptr pt] wx fun e w' => e = .returned (.int .u64 (σ.tb.next : Int)) ∧ Below wx.heap.size wx w') := fun wx h => t_next h hm.tb (by omega)
      clear H H1 hl hm CL hR hc ha
      go_enter Tryz.func14, Tryz.ntmps14
      go_wp2_with (fail)
      refine CL1.out.mono ?_
      clear CL1
      rintro e w1 ⟨rfl, hb1⟩
      have H2 := Lib.hid (HH.out.later hb1)
      have c2 := (H2.out.cellV 0 rfl 2 rfl).1
      clear hb1 HH
      go_wp2_with (fail)
      refine (CN.out _ H2.out).mono ?_
      clear CN c2
      rintro e w2 ⟨rfl, hb2⟩
      have H3 := Lib.hid (H2.out.later hb2)
      clear hb2 H2
      go_wp2
      go_ret2
      rw [HR.out]
      exact ⟨rfl, A_of HLR.out H3.out⟩
set_option maxHeartbeats 8000000 in
theorem new_any {fs : FlaM.FS} {tb : TabM.T} (H : Own.St B w0 w (Fla.AFl pf fs :: Tba.A pt tb :: Ps)) (okf : FlaM.Ok fs N) (okt : TabM.Ok tb N) (hN : N ≤ 9000) (f : Int) (hf : i64L f) :
    Calls Tryz.prog 17 #[ptr pf, .int .i64 f, ptr pt] w fun e w' => if mayL fs tb f = true then ∃ p, e = .returned (.tuple #[ptr p, errL 0]) ∧ Own.St B w0 w' (A p pf pt f.toNat fs.pp tb fs.pp :: Fla.AFl pf fs :: Tba.A pt tb :: Ps) else e = .returned (.tuple #[.pointer none, errL 1]) ∧ Own.St B w0 w' (Fla.AFl pf fs :: Tba.A pt tb :: Ps) := by
  have hss := okf.segs
  have hpp := okf.pp
  have hrl := okt.len
  obtain ⟨sl, hsl⟩ : ∃ x, x = fs.safe.length := ⟨_, rfl⟩
  obtain ⟨rl, hrl2⟩ : ∃ x, x = tb.rows.length := ⟨_, rfl⟩
  obtain ⟨pp, hpe⟩ : ∃ x, x = fs.pp := ⟨_, rfl⟩
  have HH := Lib.hid H
  have hm : mayL fs tb f = (decide (0 ≤ f) && decide (f + (rl : Int) ≤ (sl : Int)) && decide (2 ≤ pp)) := by rw [hsl, hrl2, hpe]; rfl
  have CS : Hid (∀ wx, Own.St B w0 wx (Fla.AFl pf fs :: Tba.A pt tb :: Ps) → Calls Tryz.prog 37 #[ptr pf] wx fun e w' => e = .returned (.int .i64 (sl : Int)) ∧ Below wx.heap.size wx w') := fun wx h => by rw [hsl]; exact Fla.segs_any h okf
  have CP : Hid (∀ wx, Own.St B w0 wx (Fla.AFl pf fs :: Tba.A pt tb :: Ps) → Calls Tryz.prog 19 #[ptr pf] wx fun e w' => e = .returned (.int .i64 (pp : Int)) ∧ Below wx.heap.size wx w') := fun wx h => by rw [hpe]; exact Fla.pages_any h
  have CR : Hid (∀ wx, Own.St B w0 wx (Fla.AFl pf fs :: Tba.A pt tb :: Ps) → Calls Tryz.prog 38 #[ptr pt] wx fun e w' => ∃ ao c, e = .returned (.slice ao rl c) ∧ Below wx.heap.size wx w') := fun wx h => by
    rw [hrl2]
    exact ((Tab.kept wx).rows (Below.refl _ _) h.swap2 okt (by omega)).mono fun e w' ⟨ao, c, h1, _, h3⟩ => ⟨ao, c, h1, h3⟩
  have HOT := Lib.hid okt
  rw [← hsl] at hss
  rw [← hpe] at hpp
  rw [← hrl2] at hrl
  have HPE := Lib.hid hpe
  unfold i64L at hf
  by_cases h0 : f < 0
  · have hmf : mayL fs tb f = false := by rw [hm, decide_eq_false (by omega)]; rfl
    simp only [hmf, Bool.false_eq_true, if_false]
    clear H okf okt hsl hrl2 hpe hm hmf CS CP CR
    go_enter Tryz.func17, Tryz.ntmps17
    go_wp2
    go_ret2
    exact ⟨rfl, HH.out⟩
  by_cases h1 : f > (sl : Int) - (rl : Int)
  · have hmf : mayL fs tb f = false := by rw [hm, decide_eq_false (show ¬ f + (rl : Int) ≤ (sl : Int) by omega)]; simp
    simp only [hmf, Bool.false_eq_true, if_false]
    clear H okf okt hsl hrl2 hpe hm hmf CP
    go_enter Tryz.func17, Tryz.ntmps17
    go_wp2_with (fail)
    refine (CS.out _ HH.out).mono ?_
    rintro e w1 ⟨rfl, hb1⟩
    have H1 := Lib.hid (HH.out.later hb1)
    clear hb1 HH CS
    go_wp2_with (fail)
    refine (CR.out _ H1.out).mono ?_
    rintro e w2 ⟨ao, c, rfl, hb2⟩
    have H2 := Lib.hid (H1.out.later hb2)
    clear hb2 H1 CR
    go_wp2
    go_ret2
    exact ⟨rfl, H2.out⟩
  by_cases h2 : (pp : Int) < 2
  · have hmf : mayL fs tb f = false := by rw [hm, decide_eq_false (show ¬ 2 ≤ pp by omega)]; simp
    simp only [hmf, Bool.false_eq_true, if_false]
    clear H okf okt hsl hrl2 hpe hm hmf
    go_enter Tryz.func17, Tryz.ntmps17
    go_wp2_with (fail)
    refine (CS.out _ HH.out).mono ?_
    rintro e w1 ⟨rfl, hb1⟩
    have H1 := Lib.hid (HH.out.later hb1)
    clear hb1 HH CS
    go_wp2_with (fail)
    refine (CR.out _ H1.out).mono ?_
    rintro e w2 ⟨ao, c, rfl, hb2⟩
    have H2 := Lib.hid (H1.out.later hb2)
    clear hb2 H1 CR
    go_wp2_with (fail)
    refine (CP.out _ H2.out).mono ?_
    rintro e w3 ⟨rfl, hb3⟩
    have H3 := Lib.hid (H2.out.later hb3)
    clear hb3 H2 CP
    go_wp2
    go_ret2
    exact ⟨rfl, H3.out⟩
  · have hmt : mayL fs tb f = true := by rw [hm, decide_eq_true (show 0 ≤ f by omega), decide_eq_true (show f + (rl : Int) ≤ (sl : Int) by omega), decide_eq_true (show 2 ≤ pp by omega)]; rfl
    simp only [hmt, if_true]
    obtain ⟨k, rfl⟩ : ∃ k : Nat, f = (k : Int) := ⟨f.toNat, by omega⟩
    have hkk : Hid ((k : Int).toNat = k) := by show _ = _; omega
    clear H okf okt hsl hrl2 hpe hm hmt
    go_enter Tryz.func17, Tryz.ntmps17
    go_wp2_with (fail)
    refine (CS.out _ HH.out).mono ?_
    rintro e w1 ⟨rfl, hb1⟩
    have H1 := Lib.hid (HH.out.later hb1)
    clear hb1 HH CS
    go_wp2_with (fail)
    refine (CR.out _ H1.out).mono ?_
    rintro e w2 ⟨ao, c, rfl, hb2⟩
    have H2 := Lib.hid (H1.out.later hb2)
    clear hb2 H1 CR
    go_wp2_with (fail)
    refine (CP.out _ H2.out).mono ?_
    rintro e w3 ⟨rfl, hb3⟩
    have H3 := Lib.hid (H2.out.later hb3)
    clear hb3 H2
    go_wp2_with (fail)
    refine (CP.out _ H3.out).mono ?_
    rintro e w4 ⟨rfl, hb4⟩
    have h4 := H3.out.later hb4
    have h5 := h4.boxV 72 (lgC pf k pt 0 pp)
    have H5 := Lib.hid h5
    clear hb4 H3 CP h4 h5
    go_wp2
    go_ret2
    refine ⟨w4.heap.size, rfl, ?_⟩
    rw [hkk.out, ← HPE.out]
    exact A_of (lr_new HOT.out) H5.out
end
set_option maxHeartbeats 2000000 in
theorem nilAppend_any (n : RecM.Nte) (ao : Option Addr) (len cap : Nat) (w : World) : Calls Tryz.prog 7 #[.pointer none, Rec.ntV n (.slice ao len cap)] w fun e w' => e = .returned (.tuple #[.agg (plcA zP), errL 2]) ∧ Below w.heap.size w w' := by
  obtain ⟨cs, hcs⟩ : ∃ cs, cs = Rec.ntC n (.slice ao len cap) := ⟨_, rfl⟩
  show Calls Tryz.prog _ #[.pointer none, .agg (Rec.ntC n (.slice ao len cap)).toArray] w _
  rw [← hcs]
  obtain ⟨z, hz⟩ : ∃ z, z = plcV 0 0 0 := ⟨_, rfl⟩
  have ZB : Hid ((Tryz.prog.info? 41).bind (·.zero) = some (.agg z.toArray)) := by rw [hz]; exact zero_plc
  have BZ : Hid (Tryz.prog.built 41 [] = some z.toArray) := by rw [hz]; exact built_plc0
  have ZL : Hid (z.length = 3) := by show _ = _; rw [hz]; rfl
  have Z1 : Hid (∀ v ∈ z, v.oneCell' = true) := by rw [hz]; intro v hv; simp at hv; rw [hv]; rfl
  have HZ := Lib.hid hz
  have H1 := Lib.hid ((Own.St.start w).alloc (.cells cs.toArray 39))
  clear hz hcs
  go_enter Tryz.func7, Tryz.ntmps7
  go_wp2_with (first
    | (refine wpList_newZ z ZB.out rfl rfl H1.out ?_; intro b4 w2 h; have H2 := Lib.hid h; clear h)
    | (refine Own.wpList_built rfl 41 #[] rfl z.toArray ?_ ?_; · (simp only [List.map_toArray, List.map_nil, List.toList_toArray]; exact BZ.out))
    | (refine wpList_fill boxy_plc rfl (.tmp 4) (.tmp 11) rfl rfl H2.out 0 rfl ZL.out z rfl rfl ZL.out Z1.out ?_; intro w7 h; simp only [List.set_cons_zero] at h; have H7 := Lib.hid h; clear h))
  refine bodyPost_ret (results_cell_two rfl _ _ b4 41 _ (0, 0) _ _ rfl rfl (H7.out.rowV 0 rfl) Tryz.underlying41 rfl (info_plc z ZL.out)) rfl ?_
  exact ⟨by rw [HZ.out]; rfl, H7.out.below⟩
set_option maxHeartbeats 2000000 in
theorem nilRead_any (x : Plc) (w : World) : Calls Tryz.prog 9 #[.pointer none, .agg (plcA x)] w fun e w' => ∃ ao cap, e = .returned (.tuple #[Rec.ntV RecM.zeroN (.slice ao 0 cap), errL 2]) ∧ Below w.heap.size w w' := by
  obtain ⟨z, hz⟩ : ∃ z, z = Rec.ntC RecM.zeroN Rec.nilV := ⟨_, rfl⟩
  have ZB : Hid ((Tryz.prog.info? 39).bind (·.zero) = some (.agg z.toArray)) := by rw [hz]; exact Rec.zero_note
  have BZ : Hid (Tryz.prog.built 39 [] = some z.toArray) := by rw [hz]; exact Rec.built_note0
  have ZL : Hid (z.length = 37) := by show _ = _; rw [hz]; rfl
  have Z1 : Hid (∀ v ∈ z, v.oneCell' = true) := by rw [hz]; exact Rec.ntC_one rfl
  have HZ := Lib.hid hz
  obtain ⟨sg, pg, ps⟩ := x
  have H1 := Lib.hid ((Own.St.start w).alloc (.cells #[.int .i64 sg, .int .i64 pg, .int .i64 ps] 41))
  show Calls Tryz.prog _ #[.pointer none, .agg #[.int .i64 sg, .int .i64 pg, .int .i64 ps]] w _
  clear hz
  go_enter Tryz.func9, Tryz.ntmps9
  go_wp2_with (first
    | (refine wpList_newZ z ZB.out rfl rfl H1.out ?_; intro b4 w2 h; have H2 := Lib.hid h; clear h)
    | (refine Own.wpList_built rfl 39 #[] rfl z.toArray ?_ ?_; · (simp only [List.map_toArray, List.map_nil, List.toList_toArray]; exact BZ.out))
    | (refine wpList_fill boxy_note rfl (.tmp 4) (.tmp 12) rfl rfl H2.out 0 rfl ZL.out z rfl rfl ZL.out Z1.out ?_; intro w7 h; simp only [List.set_cons_zero] at h; have H7 := Lib.hid h; clear h))
  refine bodyPost_ret (results_cell_two rfl _ _ b4 39 _ (0, 0) _ _ rfl rfl (H7.out.rowV 0 rfl) Tryz.underlying39 rfl (Rec.info_note z ZL.out)) rfl ?_
  exact ⟨none, 0, by rw [HZ.out]; rfl, H7.out.below⟩
theorem nilClose_any (w : World) : Calls Tryz.prog 8 #[.pointer none] w fun e w' => e = .returned (errL 2) ∧ Below w.heap.size w w' := by
  go_enter Tryz.func8, Tryz.ntmps8
  go_wp2
  go_ret
  exact ⟨rfl, Below.refl _ _⟩
theorem nilScan_any (seg page : Int) (w : World) : Calls Tryz.prog 12 #[.pointer none, .int .i64 seg, .int .i64 page] w fun e w' => ∃ ao cap, e = .returned (.tuple #[.int .u64 0, .slice ao 0 cap, errL 2]) ∧ Below w.heap.size w w' := by
  go_enter Tryz.func12, Tryz.ntmps12
  go_wp2
  go_ret3
  exact ⟨none, 0, rfl, Below.refl _ _⟩
theorem nilHead_any (w : World) : Calls Tryz.prog 14 #[.pointer none] w fun e w' => e = .returned (.tuple #[.int .u64 0, .int .i64 0]) ∧ Below w.heap.size w w' := by
  go_enter Tryz.func14, Tryz.ntmps14
  go_wp2
  go_ret2
  exact ⟨rfl, Below.refl _ _⟩
theorem newNilF_any (fr : Int) (v : Value) (w : World) : Calls Tryz.prog 17 #[.pointer none, .int .i64 fr, v] w fun e w' => e = .returned (.tuple #[.pointer none, errL 2]) ∧ Below w.heap.size w w' := by
  go_enter Tryz.func17, Tryz.ntmps17
  go_wp2
  go_ret2
  exact ⟨rfl, Below.refl _ _⟩
theorem newNilT_any (fr : Int) (p : Nat) (w : World) : Calls Tryz.prog 17 #[ptr p, .int .i64 fr, .pointer none] w fun e w' => e = .returned (.tuple #[.pointer none, errL 2]) ∧ Below w.heap.size w w' := by
  go_enter Tryz.func17, Tryz.ntmps17
  go_wp2
  go_ret2
  exact ⟨rfl, Below.refl _ _⟩
end Lga
namespace Lg
open Go.LogM Byt Lga
noncomputable def kept (W : World) : Kept W (Fla.kept W) (Tab.kept W) where
  A := Lga.A
  new fr _ H h1 h2 hN hf := new_any H h1 h2 hN fr hf
  newNilF := newNilF_any
  newNilT := newNilT_any
  append n ao len cap _ H hm hN f hl hb := append_any H hm hN n f ao len cap hl.given hb
  close _ H hm hN := close_any H hm (by omega)
  read x _ H hm hN h1 h2 h3 := read_any H hm hN x h1 h2 h3
  scan seg page _ H hm hN h1 h2 := scan_any H hm hN seg page h1 h2
  head _ H hm hN := head_any H hm hN
  nilAppend n ao len cap w _ := nilAppend_any n ao len cap w
  nilClose := nilClose_any
  nilRead := nilRead_any
  nilScan := nilScan_any
  nilHead := nilHead_any
end Lg
end Go.Proofs.YtmdphcebmgcdbaaGreat
end
