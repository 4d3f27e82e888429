/- Layer 7: the document's flash: some, with its fates. -/
import Derived.Test.YtepllhfofhehaaaFlaRe
namespace Go.Proofs.Ytepllhfofhehaaa
open Go.RowKit Go.Own
namespace Fla
open Go.FlaM Byt

theorem grid_later {B : Nat} {w0 w : World} {Ps : List Asn} {vS : Value} {safe : List (List Bs)} (H : Own.St B w0 w (GridS vS safe :: Ps)) (i k : Nat) (hi : i < safe.length) (hk : k < (safe.getD i []).length) :
    ∃ g g2 c cap, vS = .slice (some ⟨g, 0, none⟩) safe.length c ∧ ∀ wx, Below w.heap.size w wx → wx.cell? ⟨g, i, none⟩ = some (.slice (some ⟨g2, 0, none⟩) (safe.getD i []).length cap) ∧ wx.cell? ⟨g2, k, none⟩ = some (strV (pageAt safe i k)) ∧
      wx.frozen? ⟨g2, k, none⟩ = false ∧ ∀ y : Bs, Own.St B w0 (wx.setCell ⟨g2, k, none⟩ (strV y)) (GridS vS (setPage safe i k y) :: Ps) := by
  have hrow : safe[i]? = some (safe.getD i []) := by rw [List.getD_eq_getElem?_getD, List.getElem?_eq_getElem hi]; rfl
  obtain ⟨g, ao, c, cap, x, rfl, hc, g2, rfl, hx, hc2, _, _⟩ := H.gridAt i k _ hrow hk
  refine ⟨g, g2, c, cap, rfl, fun wx hwx => ?_⟩
  obtain ⟨g', ao', c', cap', x', hv, hc', g2', rfl, hx', hc2', hf', put⟩ := (H.later hwx).gridAt i k _ hrow hk
  cases hv
  have e := cellLater hc hwx
  rw [hc'] at e
  cases e
  have ex : pageAt safe i k = x' := by unfold pageAt; rw [List.getD_eq_getElem?_getD, hx']; rfl
  rw [ex]
  exact ⟨hc', hc2', hf', put⟩

set_option maxRecDepth 4000 in
set_option maxHeartbeats 8000000 in
theorem some_any {B : Nat} {w0 w : World} {Ps : List Asn} {p : Nat} {s : FS} {N : Nat} (H : Own.St B w0 w (ARef p s :: Ps)) (hok : Ok s N) (hN : N ≤ 100000) (ao : Option Addr) (nf cap : Nat) (fates : List Int) (hF : FReads B w0 Ps ao fates) (hnf : fates.length = nf) (hnc : nf ≤ cap ∧ cap ≤ maxLen) (hfi : ∀ j, j < nf → i64B (fates.getD j 0)) :
    Calls Try.prog 58 #[ptr p, .slice ao nf cap] w fun e w' => e = .returned (.tuple #[]) ∧ Own.St B w0 w' (ARef p (some' s fates) :: Ps) := by
  obtain ⟨vS, vL, vW, H⟩ := ref_open H
  obtain ⟨aS, cS, rfl⟩ := grid_form H
  obtain ⟨aL, cL, rfl⟩ := rowL_form H 2 rfl
  obtain ⟨nS, hnS⟩ : ∃ n, n = s.safe.length := ⟨_, rfl⟩
  obtain ⟨len, hlen⟩ : ∃ n, n = s.L.length := ⟨_, rfl⟩
  obtain ⟨vS, hvS⟩ : ∃ v, v = Value.slice aS nS cS := ⟨_, rfl⟩
  obtain ⟨vL, hvL⟩ : ∃ v, v = Value.slice aL len cL := ⟨_, rfl⟩
  rw [← hnS, ← hlen, ← hvS, ← hvL] at H
  obtain ⟨FIN, hFIN⟩ : ∃ F, F = doAll s.pp fates s.safe 0 s.L := ⟨_, rfl⟩
  have HLEN := Lib.hid hlen
  have HNS := Lib.hid hnS
  have HSH : Hid (Shape s.safe nS s.pp) := by rw [hnS]; exact hok.shape
  have HF := Lib.hid hF
  have HOK := Lib.hid hok
  have hlenb : len ≤ 100000 := by rw [hlen]; exact Nat.le_trans hok.log (Nat.le_trans hok.n hN)
  have hpp := hok.pp
  have HFL := Lib.hid hnf
  have HFIN := Lib.hid hFIN
  have HFI := Lib.hid hfi
  have HNC := Lib.hid hnc
  have hnfb : nf ≤ 9223372036854775807 := by have := hnc.2; unfold maxLen at this; omega
  have HE : Hid (∀ w', Own.St B w0 w' (GridS vS FIN :: AVals p 72 ((flashCells vS vL vW s).set 1 (.slice none 0 0)) :: RowL vL s.L :: RowW vW s.wear :: Ps) → Own.St B w0 w' (ARef p (some' s fates) :: Ps)) := by
    intro w' h
    have h2 : Own.St B w0 w' (RowL (.slice none 0 0) [] :: GridS vS FIN :: AVals p 72 ((flashCells vS vL vW s).set 1 (.slice none 0 0)) :: RowL vL s.L :: RowW vW s.wear :: Ps) := h.rowFresh
    have h3 := (h2.front 3 rfl).drop 1
    have h4 := Own.St.back (Ps := GridS vS FIN :: AVals p 72 ((flashCells vS vL vW s).set 1 (.slice none 0 0)) :: RowL (.slice none 0 0) [] :: RowW vW s.wear :: Ps) (Q := RowL (.slice none 0 0) []) 2 (by simp) h3
    refine ref_close (s := some' s fates) (vS := vS) (vL := .slice none 0 0) (vW := vW) ?_
    unfold some'
    rw [← HFIN.out]
    exact h4
  have HH := Lib.hid H
  have HVS := Lib.hid hvS
  have HVL := Lib.hid hvL
  clear H hlen hnS hvS hvL hok hFIN hnf hfi hnc hF
  go_enter Try.func58, Try.ntmps58
  go_wp2
  go_loopw [4] (fun v4 wr => ∃ (i : Nat) (safe' : List (List Bs)), i ≤ len ∧ v4 = .int .i64 (i : Int) ∧ Shape safe' nS s.pp ∧ doAll s.pp fates safe' i (s.L.drop i) = FIN ∧ Own.St B w0 wr (GridS vS safe' :: AVals p 72 (flashCells vS vL vW s) :: RowL vL s.L :: RowW vW s.wear :: Ps)) (fun v4 _ => len - (intOf v4).toNat)
  case atStart => exact ⟨0, s.safe, Nat.zero_le _, rfl, HSH.out, by rw [List.drop_zero]; exact HFIN.out.symm, HH.out⟩
  case round =>
    obtain ⟨i, safe', hil, rfl, hsh, hall, hG⟩ := hrel
    have G := Lib.hid hG
    have HS := Lib.hid hsh
    have HA := Lib.hid hall
    clear HH hG hsh hall
    have c1 : wr.cell? ⟨p, 1, none⟩ = some (.slice aL len cL) := by rw [← HVL.out]; exact (G.out.cellV 1 rfl 1 rfl).1
    by_cases hi : i < len
    · obtain ⟨a, ha⟩ : ∃ a, s.L[i]? = some a := ⟨_, List.getElem?_eq_getElem (by have := HLEN.out; omega)⟩
      have HAC : Hid (a.seg < nS ∧ ((0 ≤ a.page ∧ a.page < (s.pp : Int) ∧ a.b.length = 128) ∨ (a.page = -1 ∧ a.b = []))) := by
        have h := HOK.out.acts a (List.mem_of_getElem? ha)
        rw [← HNS.out] at h
        exact h
      obtain ⟨gL, c', e, e0, e1, e2⟩ := rowL_at G.out 2 rfl i a ha
      have e' : aL = some ⟨gL, 0, none⟩ := by have := HVL.out; rw [e] at this; cases this; rfl
      subst e'
      clear e
      have HD : Hid (FIN = doAll s.pp fates (doOne s.pp safe' a (fates.getD i 0)) (i + 1) (s.L.drop (i + 1))) := by
        show FIN = _
        rw [← HA.out, List.drop_eq_getElem_cons (by have := HLEN.out; omega)]
        have e3 : s.L[i]'(by have := HLEN.out; omega) = a := by have := List.getElem?_eq_some_iff.1 ha; exact this.2
        rw [e3]
        rfl
      clear ha
      obtain ⟨sg, pg, ab⟩ := a
      simp only at e0 e1 e2 HAC
      obtain ⟨b5, hb5⟩ : ∃ b, b = wr.heap.size := ⟨_, rfl⟩
      obtain ⟨w5, hw5⟩ : ∃ w5, w5 = wr.alloc (.cells #[.int .i64 (sg : Int), .int .i64 pg, strV ab] 93) := ⟨_, rfl⟩
      have G5 : Own.St B w0 w5 (GridS vS safe' :: AVals b5 93 [.int .i64 (sg : Int), .int .i64 pg, strV ab] :: AVals p 72 (flashCells vS vL vW s) :: RowL vL s.L :: RowW vW s.wear :: Ps) := by
        rw [hb5, hw5]; exact (G.out.boxV 93 [.int .i64 (sg : Int), .int .i64 pg, strV ab]).swap2
      have HFA : (∃ b o f, i < nf ∧ ao = some ⟨b, o, none⟩ ∧ fates.getD i 0 = f ∧ w5.cell? ⟨b, o + i, none⟩ = some (.int .i64 f)) ∨ (¬ i < nf ∧ fates.getD i 0 = 0) := by
        by_cases h : i < nf
        · obtain ⟨b, o, h1, h2⟩ := HF.out w5 [_, _, _, _, _] G5 i (by rw [HFL.out]; exact h)
          exact .inl ⟨b, o, _, h, h1, rfl, h2⟩
        · exact .inr ⟨h, by rw [List.getD_eq_getElem?_getD, List.getElem?_eq_none (by rw [HFL.out]; omega)]; rfl⟩
      have HG5 := Lib.hid G5
      have HB5 := Lib.hid hb5
      have HW5 := Lib.hid hw5
      clear G5 hb5 G
      obtain ⟨n0, hmx⟩ : ∃ n0 : Nat, n0 = (fates.getD i 0).toNat := ⟨_, rfl⟩
      have HN0 := Lib.hid hmx
      clear hmx
      have HC0 : Hid (∀ wx, Below w5.heap.size w5 wx → wx.cell? ⟨p, 0, none⟩ = some vS) := fun wx hwx => ((HG5.out.later hwx).cellV 2 rfl 0 rfl).1
      have A0 : Hid (∀ wx, Below w5.heap.size w5 wx → wx.cell? ⟨b5, 0, none⟩ = some (.int .i64 (sg : Int))) := fun wx hwx => ((HG5.out.later hwx).cellV 1 rfl 0 rfl).1
      by_cases hkind : 0 ≤ pg
      · obtain ⟨k, rfl⟩ := Int.eq_ofNat_of_zero_le hkind
        have hsgn : sg < nS := HAC.out.1
        have hab : ab.length = 128 ∧ k < s.pp := by rcases HAC.out.2 with ⟨_, h2, h3⟩ | ⟨h1, _⟩ <;> omega
        have hkrow : k < (safe'.getD sg []).length := by rw [HS.out.rows sg hsgn]; exact hab.2
        have hxl : (pageAt safe' sg k).length = 128 := HS.out.pages sg k hsgn hab.2
        obtain ⟨gS, g2, cS', cR, hvS, hgl⟩ := grid_later HG5.out sg k (by rw [HS.out.len]; exact hsgn) hkrow
        obtain ⟨nR, hnR⟩ : ∃ nR, nR = (safe'.getD sg []).length := ⟨_, rfl⟩
        obtain ⟨x, hx⟩ : ∃ x, x = pageAt safe' sg k := ⟨_, rfl⟩
        rw [← hnR] at hgl hkrow
        rw [← hx] at hgl hxl
        rw [HS.out.len] at hvS
        obtain ⟨m, hm⟩ : ∃ m, m = min n0 128 := ⟨_, rfl⟩
        have hm128 : m ≤ 128 := by omega
        have HGL := Lib.hid hgl
        have A1 : Hid (∀ wx, Below w5.heap.size w5 wx → wx.cell? ⟨b5, 1, none⟩ = some (.int .i64 (k : Int))) := fun wx hwx => ((HG5.out.later hwx).cellV 1 rfl 1 rfl).1
        have A2 : Hid (∀ wx, Below w5.heap.size w5 wx → wx.cell? ⟨b5, 2, none⟩ = some (strV ab)) := fun wx hwx => ((HG5.out.later hwx).cellV 1 rfl 2 rfl).1
        have CS : Hid (∀ wx, Below w5.heap.size w5 wx → wx.cell? ⟨p, 0, none⟩ = some (.slice (some ⟨gS, 0, none⟩) nS cS')) := fun wx hwx => by rw [← hvS]; exact HC0.out wx hwx
        have CG : Hid (∀ wx, Below w5.heap.size w5 wx → wx.cell? ⟨gS, sg, none⟩ = some (.slice (some ⟨g2, 0, none⟩) nR cR)) := fun wx hwx => (hgl wx hwx).1
        have CX : Hid (∀ wx, Below w5.heap.size w5 wx → wx.cell? ⟨g2, k, none⟩ = some (strV x)) := fun wx hwx => (hgl wx hwx).2.1
        have HDONE : Hid (doOne s.pp safe' ⟨sg, (k : Int), ab⟩ (fates.getD i 0) = setPage safe' sg k (ab.take m ++ x.drop m)) := by
          show _ = _
          unfold doOne
          rw [if_pos (show (0 : Int) ≤ (k : Int) by omega), hx, hm, HN0.out]
          rfl
        have HSH2 : Hid (Shape (setPage safe' sg k (ab.take m ++ x.drop m)) nS s.pp) := shape_set HS.out sg k hsgn hab.2 _ (by rw [List.length_append, List.length_take, List.length_drop]; omega)
        have hsg : sg < nS := hsgn
        have hnb : m ≤ ab.length := by omega
        have habl : ab.length ≤ 1000000000 := by omega
        have hkR : k < nR := hkrow
        have hnx : m ≤ x.length := by omega
        have hxl2 : x.length ≤ 1000000000 := by omega
        have hsum : (ab.take m).length + (x.drop m).length ≤ 1000000000 := by rw [List.length_take, List.length_drop]; omega
        have HM := Lib.hid hm
        clear hvS hgl hnR hx hm hab
        have FATE : Hid (∀ f, fates.getD i 0 = f → ∀ wx, (Builtin.max_ #[3, 3] 3 #[.int .i64 f, .int .i64 0]).run Try.prog wx = .ok (.int .i64 (n0 : Int)) wx) := by
          intro f hf wx
          rw [show (n0 : Int) = max f 0 by have := HN0.out; omega]
          simp [Builtin.max_, Builtin.max2, go_sem]
          try omega
        have hmin : ∀ wx, (Builtin.min_ #[3, 3] 3 #[.int .i64 (n0 : Int), .int .i64 128]).run Try.prog wx = .ok (.int .i64 (m : Int)) wx := by
          intro wx
          rw [show (m : Int) = min (n0 : Int) 128 by have := HM.out; omega]
          simp [Builtin.min_, Builtin.min2, go_sem]
          try omega
        rcases HFA with ⟨b, o, f, hin, rfl, hf, cf⟩ | ⟨hin, hf⟩
        · have hmax := FATE.out f hf
          rw [hw5] at cf
          clear hf hw5
          go_wp2
          clear hmax hmin cf c1 e0 e1 e2
          rw [← HW5.out, ← HB5.out]
          refine wp_laxW_list 30 (by kernel_rfl) (by kernel_rfl) (by kernel_rfl) (by kernel_rfl) (by kernel_rfl) ?_
          simp only [List.take_succ_cons, List.take_zero, List.drop_succ_cons, List.drop_zero]
          refine wpL_move (.pointer (some ⟨p, 0, none⟩)) rfl (by kernel_rfl) (by kernel_rfl) (by kernel_rfl) (by kernel_rfl) ?_
          refine wpL_run1 (x := .tmp 38) (.pointer (some ⟨p, 0, none⟩)) (.pointer (some ⟨p, 0, none⟩)) (by kernel_rfl) (by kernel_rfl) (by kernel_rfl) (by kernel_rfl) (by kernel_rfl) (fun wx ρ hwx h0 hc => by simp [go_sem, h0, hc]) ?_
          refine wpL_run1 (x := .tmp 39) (.pointer (some ⟨p, 0, none⟩)) (.pointer (some ⟨p, 0, none⟩)) (by kernel_rfl) (by kernel_rfl) (by kernel_rfl) (by kernel_rfl) (by kernel_rfl) (fun wx ρ hwx h0 hc => by simp [go_sem, h0, hc]) ?_
          refine wpL_run1 (x := .tmp 40) (.pointer (some ⟨p, 0, none⟩)) (.slice (some ⟨gS, 0, none⟩) nS cS') (by kernel_rfl) (by kernel_rfl) (by kernel_rfl) (by kernel_rfl) (by kernel_rfl) (fun wx ρ hwx h0 hc => by simp [go_sem, h0, hc, CS.out wx hwx]) ?_
          refine wpL_run1 (x := .tmp 5) (.pointer (some ⟨b5, 0, none⟩)) (.pointer (some ⟨b5, 0, none⟩)) (by kernel_rfl) (by kernel_rfl) (by kernel_rfl) (by kernel_rfl) (by kernel_rfl) (fun wx ρ hwx h0 hc => by simp [go_sem, h0, hc]) ?_
          refine wpL_run1 (x := .tmp 42) (.pointer (some ⟨b5, 0, none⟩)) (.int .i64 (sg : Int)) (by kernel_rfl) (by kernel_rfl) (by kernel_rfl) (by kernel_rfl) (by kernel_rfl) (fun wx ρ hwx h0 hc => by simp [go_sem, h0, hc, A0.out wx hwx]) ?_
          refine wpL_run2 (x := .tmp 41) (y := .tmp 43) (.slice (some ⟨gS, 0, none⟩) nS cS') (.int .i64 (sg : Int)) (.pointer (some ⟨gS, sg, none⟩)) (by kernel_rfl) (by kernel_rfl) (by kernel_rfl) (by kernel_rfl) (by kernel_rfl) (by kernel_rfl) (fun wx ρ hwx h0 h1 hc => idx_ss rfl gS nS cS' sg hsg ρ wx h0 h1) ?_
          refine wpL_run1 (x := .tmp 44) (.pointer (some ⟨gS, sg, none⟩)) (.slice (some ⟨g2, 0, none⟩) nR cR) (by kernel_rfl) (by kernel_rfl) (by kernel_rfl) (by kernel_rfl) (by kernel_rfl) (fun wx ρ hwx h0 hc => by simp [go_sem, h0, hc, CG.out wx hwx]) ?_
          refine wpL_run1 (x := .tmp 5) (.pointer (some ⟨b5, 0, none⟩)) (.pointer (some ⟨b5, 1, none⟩)) (by kernel_rfl) (by kernel_rfl) (by kernel_rfl) (by kernel_rfl) (by kernel_rfl) (fun wx ρ hwx h0 hc => by simp [go_sem, h0, hc]) ?_
          refine wpL_run1 (x := .tmp 46) (.pointer (some ⟨b5, 1, none⟩)) (.int .i64 (k : Int)) (by kernel_rfl) (by kernel_rfl) (by kernel_rfl) (by kernel_rfl) (by kernel_rfl) (fun wx ρ hwx h0 hc => by simp [go_sem, h0, hc, A1.out wx hwx]) ?_
          refine wpL_run1 (x := .tmp 5) (.pointer (some ⟨b5, 0, none⟩)) (.pointer (some ⟨b5, 2, none⟩)) (by kernel_rfl) (by kernel_rfl) (by kernel_rfl) (by kernel_rfl) (by kernel_rfl) (fun wx ρ hwx h0 hc => by simp [go_sem, h0, hc]) ?_
          refine wpL_run1 (x := .tmp 48) (.pointer (some ⟨b5, 2, none⟩)) (strV ab) (by kernel_rfl) (by kernel_rfl) (by kernel_rfl) (by kernel_rfl) (by kernel_rfl) (fun wx ρ hwx h0 hc => by simp [go_sem, h0, hc, A2.out wx hwx]) ?_
          refine wpL_move (.int .i64 (m : Int)) rfl (by kernel_rfl) (by kernel_rfl) (by kernel_rfl) (by kernel_rfl) ?_
          refine wpL_run2 (x := .tmp 49) (y := .tmp 50) (strV ab) (.int .i64 (m : Int)) (strV (ab.take m)) (by kernel_rfl) (by kernel_rfl) (by kernel_rfl) (by kernel_rfl) (by kernel_rfl) (by kernel_rfl) (fun wx ρ hwx h0 h1 hc => str_take rfl ab m hnb habl ρ wx h0 h1) ?_
          refine wpL_move (.pointer (some ⟨p, 0, none⟩)) rfl (by kernel_rfl) (by kernel_rfl) (by kernel_rfl) (by kernel_rfl) ?_
          refine wpL_run1 (x := .tmp 52) (.pointer (some ⟨p, 0, none⟩)) (.pointer (some ⟨p, 0, none⟩)) (by kernel_rfl) (by kernel_rfl) (by kernel_rfl) (by kernel_rfl) (by kernel_rfl) (fun wx ρ hwx h0 hc => by simp [go_sem, h0, hc]) ?_
          refine wpL_run1 (x := .tmp 53) (.pointer (some ⟨p, 0, none⟩)) (.pointer (some ⟨p, 0, none⟩)) (by kernel_rfl) (by kernel_rfl) (by kernel_rfl) (by kernel_rfl) (by kernel_rfl) (fun wx ρ hwx h0 hc => by simp [go_sem, h0, hc]) ?_
          refine wpL_run1 (x := .tmp 54) (.pointer (some ⟨p, 0, none⟩)) (.slice (some ⟨gS, 0, none⟩) nS cS') (by kernel_rfl) (by kernel_rfl) (by kernel_rfl) (by kernel_rfl) (by kernel_rfl) (fun wx ρ hwx h0 hc => by simp [go_sem, h0, hc, CS.out wx hwx]) ?_
          refine wpL_run1 (x := .tmp 5) (.pointer (some ⟨b5, 0, none⟩)) (.pointer (some ⟨b5, 0, none⟩)) (by kernel_rfl) (by kernel_rfl) (by kernel_rfl) (by kernel_rfl) (by kernel_rfl) (fun wx ρ hwx h0 hc => by simp [go_sem, h0, hc]) ?_
          refine wpL_run1 (x := .tmp 56) (.pointer (some ⟨b5, 0, none⟩)) (.int .i64 (sg : Int)) (by kernel_rfl) (by kernel_rfl) (by kernel_rfl) (by kernel_rfl) (by kernel_rfl) (fun wx ρ hwx h0 hc => by simp [go_sem, h0, hc, A0.out wx hwx]) ?_
          refine wpL_run2 (x := .tmp 55) (y := .tmp 57) (.slice (some ⟨gS, 0, none⟩) nS cS') (.int .i64 (sg : Int)) (.pointer (some ⟨gS, sg, none⟩)) (by kernel_rfl) (by kernel_rfl) (by kernel_rfl) (by kernel_rfl) (by kernel_rfl) (by kernel_rfl) (fun wx ρ hwx h0 h1 hc => idx_ss rfl gS nS cS' sg hsg ρ wx h0 h1) ?_
          refine wpL_run1 (x := .tmp 58) (.pointer (some ⟨gS, sg, none⟩)) (.slice (some ⟨g2, 0, none⟩) nR cR) (by kernel_rfl) (by kernel_rfl) (by kernel_rfl) (by kernel_rfl) (by kernel_rfl) (fun wx ρ hwx h0 hc => by simp [go_sem, h0, hc, CG.out wx hwx]) ?_
          refine wpL_run1 (x := .tmp 5) (.pointer (some ⟨b5, 0, none⟩)) (.pointer (some ⟨b5, 1, none⟩)) (by kernel_rfl) (by kernel_rfl) (by kernel_rfl) (by kernel_rfl) (by kernel_rfl) (fun wx ρ hwx h0 hc => by simp [go_sem, h0, hc]) ?_
          refine wpL_run1 (x := .tmp 60) (.pointer (some ⟨b5, 1, none⟩)) (.int .i64 (k : Int)) (by kernel_rfl) (by kernel_rfl) (by kernel_rfl) (by kernel_rfl) (by kernel_rfl) (fun wx ρ hwx h0 hc => by simp [go_sem, h0, hc, A1.out wx hwx]) ?_
          refine wpL_run2 (x := .tmp 59) (y := .tmp 61) (.slice (some ⟨g2, 0, none⟩) nR cR) (.int .i64 (k : Int)) (.pointer (some ⟨g2, k, none⟩)) (by kernel_rfl) (by kernel_rfl) (by kernel_rfl) (by kernel_rfl) (by kernel_rfl) (by kernel_rfl) (fun wx ρ hwx h0 h1 hc => idx_s rfl g2 nR cR k hkR ρ wx h0 h1) ?_
          refine wpL_run1 (x := .tmp 62) (.pointer (some ⟨g2, k, none⟩)) (strV x) (by kernel_rfl) (by kernel_rfl) (by kernel_rfl) (by kernel_rfl) (by kernel_rfl) (fun wx ρ hwx h0 hc => by simp [go_sem, h0, hc, CX.out wx hwx]) ?_
          refine wpL_move (.int .i64 (m : Int)) rfl (by kernel_rfl) (by kernel_rfl) (by kernel_rfl) (by kernel_rfl) ?_
          refine wpL_run2 (x := .tmp 63) (y := .tmp 64) (strV x) (.int .i64 (m : Int)) (strV (x.drop m)) (by kernel_rfl) (by kernel_rfl) (by kernel_rfl) (by kernel_rfl) (by kernel_rfl) (by kernel_rfl) (fun wx ρ hwx h0 h1 hc => str_drop rfl x m hnx hxl2 ρ wx h0 h1) ?_
          refine wpL_run2 (x := .tmp 51) (y := .tmp 65) (strV (ab.take m)) (strV (x.drop m)) (strV (ab.take m ++ x.drop m)) (by kernel_rfl) (by kernel_rfl) (by kernel_rfl) (by kernel_rfl) (by kernel_rfl) (by kernel_rfl) (fun wx ρ hwx h0 h1 hc => str_add rfl _ _ hsum ρ wx h0 h1) ?_
          refine wpL_run2 (x := .tmp 45) (y := .tmp 47) (.slice (some ⟨g2, 0, none⟩) nR cR) (.int .i64 (k : Int)) (.pointer (some ⟨g2, k, none⟩)) (by kernel_rfl) (by kernel_rfl) (by kernel_rfl) (by kernel_rfl) (by kernel_rfl) (by kernel_rfl) (fun wx ρ hwx h0 h1 hc => idx_s rfl g2 nR cR k hkR ρ wx h0 h1) ?_
          refine wpL_end (by kernel_rfl) (fun w9 hw9 => ?_)
          simp only [FinL, setL, List.set_cons_zero, List.set_cons_succ]
          intro _
          obtain ⟨cg9, cw9, fw9, put9⟩ := HGL.out w9 hw9
          obtain ⟨w10, hw10⟩ : ∃ w10, w10 = w9.setCell ⟨g2, k, none⟩ (strV (ab.take m ++ x.drop m)) := ⟨_, rfl⟩
          have H10 := Lib.hid (put9 (ab.take m ++ x.drop m))
          rw [← hw10] at H10
          clear put9 cg9 hw9
          go_wp2
          rw [← hw10]
          clear hw10 cw9 fw9
          go_loopw [7] (fun v7 wx => v7 = .int .i64 0 ∧ wx = w10) (fun _ _ => 0)
          case atStart => exact ⟨rfl, rfl⟩
          case round =>
            obtain ⟨rfl, rfl⟩ := hrel
            have q1 := (H10.out.cellV 1 rfl 1 rfl).1
            go_wp2
            go_roundw
            case rel => exact ⟨i + 1, _, by omega, by go_num, HSH2.out, by rw [← HDONE.out]; exact HD.out.symm, H10.out.drop2⟩
            case measure => simp [intOf]; omega
        · obtain rfl : n0 = 0 := by rw [HN0.out, hf]; rfl
          obtain rfl : m = 0 := by rw [HM.out]; rfl
          have hmin : ∀ wx, (Builtin.min_ #[3, 3] 3 #[.int .i64 0, .int .i64 128]).run Try.prog wx = .ok (.int .i64 0) wx := hmin
          have e0' : ab.take 0 ++ x.drop 0 = x := by simp
          rw [e0'] at HSH2 HDONE
          clear hf hw5 e0'
          go_wp2
          clear hmin c1 e0 e1 e2
          rw [← HW5.out, ← HB5.out]
          refine wp_laxW_list 30 (by kernel_rfl) (by kernel_rfl) (by kernel_rfl) (by kernel_rfl) (by kernel_rfl) ?_
          simp only [List.take_succ_cons, List.take_zero, List.drop_succ_cons, List.drop_zero]
          refine wpL_move (.pointer (some ⟨p, 0, none⟩)) rfl (by kernel_rfl) (by kernel_rfl) (by kernel_rfl) (by kernel_rfl) ?_
          refine wpL_run1 (x := .tmp 38) (.pointer (some ⟨p, 0, none⟩)) (.pointer (some ⟨p, 0, none⟩)) (by kernel_rfl) (by kernel_rfl) (by kernel_rfl) (by kernel_rfl) (by kernel_rfl) (fun wx ρ hwx h0 hc => by simp [go_sem, h0, hc]) ?_
          refine wpL_run1 (x := .tmp 39) (.pointer (some ⟨p, 0, none⟩)) (.pointer (some ⟨p, 0, none⟩)) (by kernel_rfl) (by kernel_rfl) (by kernel_rfl) (by kernel_rfl) (by kernel_rfl) (fun wx ρ hwx h0 hc => by simp [go_sem, h0, hc]) ?_
          refine wpL_run1 (x := .tmp 40) (.pointer (some ⟨p, 0, none⟩)) (.slice (some ⟨gS, 0, none⟩) nS cS') (by kernel_rfl) (by kernel_rfl) (by kernel_rfl) (by kernel_rfl) (by kernel_rfl) (fun wx ρ hwx h0 hc => by simp [go_sem, h0, hc, CS.out wx hwx]) ?_
          refine wpL_run1 (x := .tmp 5) (.pointer (some ⟨b5, 0, none⟩)) (.pointer (some ⟨b5, 0, none⟩)) (by kernel_rfl) (by kernel_rfl) (by kernel_rfl) (by kernel_rfl) (by kernel_rfl) (fun wx ρ hwx h0 hc => by simp [go_sem, h0, hc]) ?_
          refine wpL_run1 (x := .tmp 42) (.pointer (some ⟨b5, 0, none⟩)) (.int .i64 (sg : Int)) (by kernel_rfl) (by kernel_rfl) (by kernel_rfl) (by kernel_rfl) (by kernel_rfl) (fun wx ρ hwx h0 hc => by simp [go_sem, h0, hc, A0.out wx hwx]) ?_
          refine wpL_run2 (x := .tmp 41) (y := .tmp 43) (.slice (some ⟨gS, 0, none⟩) nS cS') (.int .i64 (sg : Int)) (.pointer (some ⟨gS, sg, none⟩)) (by kernel_rfl) (by kernel_rfl) (by kernel_rfl) (by kernel_rfl) (by kernel_rfl) (by kernel_rfl) (fun wx ρ hwx h0 h1 hc => idx_ss rfl gS nS cS' sg hsg ρ wx h0 h1) ?_
          refine wpL_run1 (x := .tmp 44) (.pointer (some ⟨gS, sg, none⟩)) (.slice (some ⟨g2, 0, none⟩) nR cR) (by kernel_rfl) (by kernel_rfl) (by kernel_rfl) (by kernel_rfl) (by kernel_rfl) (fun wx ρ hwx h0 hc => by simp [go_sem, h0, hc, CG.out wx hwx]) ?_
          refine wpL_run1 (x := .tmp 5) (.pointer (some ⟨b5, 0, none⟩)) (.pointer (some ⟨b5, 1, none⟩)) (by kernel_rfl) (by kernel_rfl) (by kernel_rfl) (by kernel_rfl) (by kernel_rfl) (fun wx ρ hwx h0 hc => by simp [go_sem, h0, hc]) ?_
          refine wpL_run1 (x := .tmp 46) (.pointer (some ⟨b5, 1, none⟩)) (.int .i64 (k : Int)) (by kernel_rfl) (by kernel_rfl) (by kernel_rfl) (by kernel_rfl) (by kernel_rfl) (fun wx ρ hwx h0 hc => by simp [go_sem, h0, hc, A1.out wx hwx]) ?_
          refine wpL_run1 (x := .tmp 5) (.pointer (some ⟨b5, 0, none⟩)) (.pointer (some ⟨b5, 2, none⟩)) (by kernel_rfl) (by kernel_rfl) (by kernel_rfl) (by kernel_rfl) (by kernel_rfl) (fun wx ρ hwx h0 hc => by simp [go_sem, h0, hc]) ?_
          refine wpL_run1 (x := .tmp 48) (.pointer (some ⟨b5, 2, none⟩)) (strV ab) (by kernel_rfl) (by kernel_rfl) (by kernel_rfl) (by kernel_rfl) (by kernel_rfl) (fun wx ρ hwx h0 hc => by simp [go_sem, h0, hc, A2.out wx hwx]) ?_
          refine wpL_move (.int .i64 0) rfl (by kernel_rfl) (by kernel_rfl) (by kernel_rfl) (by kernel_rfl) ?_
          refine wpL_run2 (x := .tmp 49) (y := .tmp 50) (strV ab) (.int .i64 0) (strV (ab.take 0)) (by kernel_rfl) (by kernel_rfl) (by kernel_rfl) (by kernel_rfl) (by kernel_rfl) (by kernel_rfl) (fun wx ρ hwx h0 h1 hc => str_take rfl ab 0 hnb habl ρ wx h0 h1) ?_
          refine wpL_move (.pointer (some ⟨p, 0, none⟩)) rfl (by kernel_rfl) (by kernel_rfl) (by kernel_rfl) (by kernel_rfl) ?_
          refine wpL_run1 (x := .tmp 52) (.pointer (some ⟨p, 0, none⟩)) (.pointer (some ⟨p, 0, none⟩)) (by kernel_rfl) (by kernel_rfl) (by kernel_rfl) (by kernel_rfl) (by kernel_rfl) (fun wx ρ hwx h0 hc => by simp [go_sem, h0, hc]) ?_
          refine wpL_run1 (x := .tmp 53) (.pointer (some ⟨p, 0, none⟩)) (.pointer (some ⟨p, 0, none⟩)) (by kernel_rfl) (by kernel_rfl) (by kernel_rfl) (by kernel_rfl) (by kernel_rfl) (fun wx ρ hwx h0 hc => by simp [go_sem, h0, hc]) ?_
          refine wpL_run1 (x := .tmp 54) (.pointer (some ⟨p, 0, none⟩)) (.slice (some ⟨gS, 0, none⟩) nS cS') (by kernel_rfl) (by kernel_rfl) (by kernel_rfl) (by kernel_rfl) (by kernel_rfl) (fun wx ρ hwx h0 hc => by simp [go_sem, h0, hc, CS.out wx hwx]) ?_
          refine wpL_run1 (x := .tmp 5) (.pointer (some ⟨b5, 0, none⟩)) (.pointer (some ⟨b5, 0, none⟩)) (by kernel_rfl) (by kernel_rfl) (by kernel_rfl) (by kernel_rfl) (by kernel_rfl) (fun wx ρ hwx h0 hc => by simp [go_sem, h0, hc]) ?_
          refine wpL_run1 (x := .tmp 56) (.pointer (some ⟨b5, 0, none⟩)) (.int .i64 (sg : Int)) (by kernel_rfl) (by kernel_rfl) (by kernel_rfl) (by kernel_rfl) (by kernel_rfl) (fun wx ρ hwx h0 hc => by simp [go_sem, h0, hc, A0.out wx hwx]) ?_
          refine wpL_run2 (x := .tmp 55) (y := .tmp 57) (.slice (some ⟨gS, 0, none⟩) nS cS') (.int .i64 (sg : Int)) (.pointer (some ⟨gS, sg, none⟩)) (by kernel_rfl) (by kernel_rfl) (by kernel_rfl) (by kernel_rfl) (by kernel_rfl) (by kernel_rfl) (fun wx ρ hwx h0 h1 hc => idx_ss rfl gS nS cS' sg hsg ρ wx h0 h1) ?_
          refine wpL_run1 (x := .tmp 58) (.pointer (some ⟨gS, sg, none⟩)) (.slice (some ⟨g2, 0, none⟩) nR cR) (by kernel_rfl) (by kernel_rfl) (by kernel_rfl) (by kernel_rfl) (by kernel_rfl) (fun wx ρ hwx h0 hc => by simp [go_sem, h0, hc, CG.out wx hwx]) ?_
          refine wpL_run1 (x := .tmp 5) (.pointer (some ⟨b5, 0, none⟩)) (.pointer (some ⟨b5, 1, none⟩)) (by kernel_rfl) (by kernel_rfl) (by kernel_rfl) (by kernel_rfl) (by kernel_rfl) (fun wx ρ hwx h0 hc => by simp [go_sem, h0, hc]) ?_
          refine wpL_run1 (x := .tmp 60) (.pointer (some ⟨b5, 1, none⟩)) (.int .i64 (k : Int)) (by kernel_rfl) (by kernel_rfl) (by kernel_rfl) (by kernel_rfl) (by kernel_rfl) (fun wx ρ hwx h0 hc => by simp [go_sem, h0, hc, A1.out wx hwx]) ?_
          refine wpL_run2 (x := .tmp 59) (y := .tmp 61) (.slice (some ⟨g2, 0, none⟩) nR cR) (.int .i64 (k : Int)) (.pointer (some ⟨g2, k, none⟩)) (by kernel_rfl) (by kernel_rfl) (by kernel_rfl) (by kernel_rfl) (by kernel_rfl) (by kernel_rfl) (fun wx ρ hwx h0 h1 hc => idx_s rfl g2 nR cR k hkR ρ wx h0 h1) ?_
          refine wpL_run1 (x := .tmp 62) (.pointer (some ⟨g2, k, none⟩)) (strV x) (by kernel_rfl) (by kernel_rfl) (by kernel_rfl) (by kernel_rfl) (by kernel_rfl) (fun wx ρ hwx h0 hc => by simp [go_sem, h0, hc, CX.out wx hwx]) ?_
          refine wpL_move (.int .i64 0) rfl (by kernel_rfl) (by kernel_rfl) (by kernel_rfl) (by kernel_rfl) ?_
          refine wpL_run2 (x := .tmp 63) (y := .tmp 64) (strV x) (.int .i64 0) (strV (x.drop 0)) (by kernel_rfl) (by kernel_rfl) (by kernel_rfl) (by kernel_rfl) (by kernel_rfl) (by kernel_rfl) (fun wx ρ hwx h0 h1 hc => str_drop rfl x 0 hnx hxl2 ρ wx h0 h1) ?_
          refine wpL_run2 (x := .tmp 51) (y := .tmp 65) (strV (ab.take 0)) (strV (x.drop 0)) (strV (ab.take 0 ++ x.drop 0)) (by kernel_rfl) (by kernel_rfl) (by kernel_rfl) (by kernel_rfl) (by kernel_rfl) (by kernel_rfl) (fun wx ρ hwx h0 h1 hc => str_add rfl _ _ hsum ρ wx h0 h1) ?_
          refine wpL_run2 (x := .tmp 45) (y := .tmp 47) (.slice (some ⟨g2, 0, none⟩) nR cR) (.int .i64 (k : Int)) (.pointer (some ⟨g2, k, none⟩)) (by kernel_rfl) (by kernel_rfl) (by kernel_rfl) (by kernel_rfl) (by kernel_rfl) (by kernel_rfl) (fun wx ρ hwx h0 h1 hc => idx_s rfl g2 nR cR k hkR ρ wx h0 h1) ?_
          refine wpL_end (by kernel_rfl) (fun w9 hw9 => ?_)
          simp only [FinL, setL, List.set_cons_zero, List.set_cons_succ]
          intro _
          obtain ⟨cg9, cw9, fw9, put9⟩ := HGL.out w9 hw9
          obtain ⟨w10, hw10⟩ : ∃ w10, w10 = w9.setCell ⟨g2, k, none⟩ (strV x) := ⟨_, rfl⟩
          have H10 := Lib.hid (put9 x)
          rw [← hw10] at H10
          clear put9 cg9 hw9
          go_wp2
          rw [← hw10]
          clear hw10 cw9 fw9
          go_loopw [7] (fun v7 wx => v7 = .int .i64 0 ∧ wx = w10) (fun _ _ => 0)
          case atStart => exact ⟨rfl, rfl⟩
          case round =>
            obtain ⟨rfl, rfl⟩ := hrel
            have q1 := (H10.out.cellV 1 rfl 1 rfl).1
            go_wp2
            go_roundw
            case rel => exact ⟨i + 1, _, by omega, by go_num, HSH2.out, by rw [← HDONE.out]; exact HD.out.symm, H10.out.drop2⟩
            case measure => simp [intOf]; omega
      · have hpg1 : pg = -1 := by rcases HAC.out.2 with ⟨h1, _⟩ | ⟨h1, _⟩ <;> omega
        subst hpg1
        have hsgn : sg < nS := HAC.out.1
        obtain ⟨M, hM⟩ : ∃ M, M = min n0 s.pp := ⟨_, rfl⟩
        have hMpp : M ≤ s.pp := by omega
        have HMM := Lib.hid hM
        have HDONE : Hid (doOne s.pp safe' ⟨sg, -1, ab⟩ (fates.getD i 0) = clearTo safe' sg M) := by
          show _ = _
          unfold doOne
          rw [if_neg (show ¬ (0 : Int) ≤ -1 by omega), hM, HN0.out]
        have HSH2 : Hid (Shape (clearTo safe' sg M) nS s.pp) := shape_clear HS.out sg M hsgn hMpp
        have FATE : Hid (∀ f, fates.getD i 0 = f → ∀ wx, (Builtin.max_ #[3, 3] 3 #[.int .i64 f, .int .i64 0]).run Try.prog wx = .ok (.int .i64 (n0 : Int)) wx) := by
          intro f hf wx
          rw [show (n0 : Int) = max f 0 by have := HN0.out; omega]
          simp [Builtin.max_, Builtin.max2, go_sem]
          try omega
        clear hM
        rcases HFA with ⟨b, o, f, hin, rfl, hf, cf⟩ | ⟨hin, hf⟩
        · have hmax := FATE.out f hf
          rw [hw5] at cf
          clear hf hw5
          go_wp2
          clear hmax cf c1 e0 e1 e2
          rw [← HW5.out, ← HB5.out]
          go_loopw [7] (fun v7 wx => ∃ k : Nat, k ≤ M ∧ v7 = .int .i64 (k : Int) ∧ Own.St B w0 wx (GridS vS (clearTo safe' sg k) :: AVals b5 93 [.int .i64 (sg : Int), .int .i64 (-1), strV ab] :: AVals p 72 (flashCells vS vL vW s) :: RowL vL s.L :: RowW vW s.wear :: Ps)) (fun v7 _ => M - (intOf v7).toNat)
          case atStart => exact ⟨0, Nat.zero_le _, rfl, HG5.out⟩
          case round =>
            obtain ⟨k, hkM, rfl, hK⟩ := hrel
            have HK := Lib.hid hK
            clear hK HG5 HC0 A0
            have q1 := (HK.out.cellV 1 rfl 1 rfl).1
            have q6 := (HK.out.cellV 2 rfl 6 rfl).1
            by_cases hkl : k < M
            · have hkn : (k : Int) < (n0 : Int) := by have := HMM.out; omega
              have hkp : (k : Int) < (s.pp : Int) := by omega
              have HSK : Hid (Shape (clearTo safe' sg k) nS s.pp) := shape_clear HS.out sg k hsgn (by omega)
              obtain ⟨gS, g2, cS', cR, hvS, hgl⟩ := grid_later HK.out sg k (by rw [HSK.out.len]; exact hsgn) (by rw [HSK.out.rows sg hsgn]; omega)
              obtain ⟨nR, hnR⟩ : ∃ nR, nR = ((clearTo safe' sg k).getD sg []).length := ⟨_, rfl⟩
              have hkR : k < nR := by rw [hnR, HSK.out.rows sg hsgn]; omega
              rw [← hnR] at hgl
              rw [HSK.out.len] at hvS
              have HGL := Lib.hid hgl
              have A0 : Hid (∀ wy, Below wr.heap.size wr wy → wy.cell? ⟨b5, 0, none⟩ = some (.int .i64 (sg : Int))) := fun wy hwy => ((HK.out.later hwy).cellV 1 rfl 0 rfl).1
              have CS : Hid (∀ wy, Below wr.heap.size wr wy → wy.cell? ⟨p, 0, none⟩ = some (.slice (some ⟨gS, 0, none⟩) nS cS')) := fun wy hwy => by rw [← hvS]; exact ((HK.out.later hwy).cellV 2 rfl 0 rfl).1
              have CG : Hid (∀ wy, Below wr.heap.size wr wy → wy.cell? ⟨gS, sg, none⟩ = some (.slice (some ⟨g2, 0, none⟩) nR cR)) := fun wy hwy => (hgl wy hwy).1
              have hsg : sg < nS := hsgn
              clear hvS hgl hnR
              go_wp2_with (fail)
              clear q1 q6
              refine wp_laxW_list 11 (by kernel_rfl) (by kernel_rfl) (by kernel_rfl) (by kernel_rfl) (by kernel_rfl) ?_
              simp only [List.take_succ_cons, List.take_zero, List.drop_succ_cons, List.drop_zero]
              refine wpL_move (.pointer (some ⟨p, 0, none⟩)) rfl (by kernel_rfl) (by kernel_rfl) (by kernel_rfl) (by kernel_rfl) ?_
              refine wpL_run1 (x := .tmp 86) (.pointer (some ⟨p, 0, none⟩)) (.pointer (some ⟨p, 0, none⟩)) (by kernel_rfl) (by kernel_rfl) (by kernel_rfl) (by kernel_rfl) (by kernel_rfl) (fun wy ρ hwy h0 hc => by simp [go_sem, h0, hc]) ?_
              refine wpL_run1 (x := .tmp 87) (.pointer (some ⟨p, 0, none⟩)) (.pointer (some ⟨p, 0, none⟩)) (by kernel_rfl) (by kernel_rfl) (by kernel_rfl) (by kernel_rfl) (by kernel_rfl) (fun wy ρ hwy h0 hc => by simp [go_sem, h0, hc]) ?_
              refine wpL_run1 (x := .tmp 88) (.pointer (some ⟨p, 0, none⟩)) (.slice (some ⟨gS, 0, none⟩) nS cS') (by kernel_rfl) (by kernel_rfl) (by kernel_rfl) (by kernel_rfl) (by kernel_rfl) (fun wy ρ hwy h0 hc => by simp [go_sem, h0, hc, CS.out wy hwy]) ?_
              refine wpL_run1 (x := .tmp 5) (.pointer (some ⟨b5, 0, none⟩)) (.pointer (some ⟨b5, 0, none⟩)) (by kernel_rfl) (by kernel_rfl) (by kernel_rfl) (by kernel_rfl) (by kernel_rfl) (fun wy ρ hwy h0 hc => by simp [go_sem, h0, hc]) ?_
              refine wpL_run1 (x := .tmp 90) (.pointer (some ⟨b5, 0, none⟩)) (.int .i64 (sg : Int)) (by kernel_rfl) (by kernel_rfl) (by kernel_rfl) (by kernel_rfl) (by kernel_rfl) (fun wy ρ hwy h0 hc => by simp [go_sem, h0, hc, A0.out wy hwy]) ?_
              refine wpL_run2 (x := .tmp 89) (y := .tmp 91) (.slice (some ⟨gS, 0, none⟩) nS cS') (.int .i64 (sg : Int)) (.pointer (some ⟨gS, sg, none⟩)) (by kernel_rfl) (by kernel_rfl) (by kernel_rfl) (by kernel_rfl) (by kernel_rfl) (by kernel_rfl) (fun wy ρ hwy h0 h1 hc => idx_ss rfl gS nS cS' sg hsg ρ wy h0 h1) ?_
              refine wpL_run1 (x := .tmp 92) (.pointer (some ⟨gS, sg, none⟩)) (.slice (some ⟨g2, 0, none⟩) nR cR) (by kernel_rfl) (by kernel_rfl) (by kernel_rfl) (by kernel_rfl) (by kernel_rfl) (fun wy ρ hwy h0 hc => by simp [go_sem, h0, hc, CG.out wy hwy]) ?_
              refine wpL_move (.int .i64 (k : Int)) rfl (by kernel_rfl) (by kernel_rfl) (by kernel_rfl) (by kernel_rfl) ?_
              refine wpL_fn (strV FlaM.blank) [] rfl (by kernel_rfl) (by kernel_rfl) (by kernel_rfl) (by kernel_rfl) (fun _ _ => by simp [go_sem]) (fun wy hwy => erased_any wy) ?_
              refine wpL_run2 (x := .tmp 93) (y := .tmp 94) (.slice (some ⟨g2, 0, none⟩) nR cR) (.int .i64 (k : Int)) (.pointer (some ⟨g2, k, none⟩)) (by kernel_rfl) (by kernel_rfl) (by kernel_rfl) (by kernel_rfl) (by kernel_rfl) (by kernel_rfl) (fun wy ρ hwy h0 h1 hc => idx_s rfl g2 nR cR k hkR ρ wy h0 h1) ?_
              refine wpL_end (by kernel_rfl) (fun w9 hw9 => ?_)
              simp only [FinL, setL, List.set_cons_zero, List.set_cons_succ]
              intro _
              obtain ⟨cg9, cw9, fw9, put9⟩ := HGL.out w9 hw9
              have H10 := Lib.hid (put9 FlaM.blank)
              clear put9 cg9 hw9
              go_wp2
              clear cw9 fw9
              go_roundw
              case rel => exact ⟨k + 1, by omega, by go_num, H10.out⟩
              case measure => simp [intOf]; omega
            · have hkM2 : k = M := by omega
              subst hkM2
              clear hkM hkl
              by_cases hk0 : (k : Int) < (n0 : Int)
              · have hkp : ¬ (k : Int) < (s.pp : Int) := by have := HMM.out; omega
                go_wp2
                go_roundw
                case rel => exact ⟨i + 1, _, by omega, by go_num, HSH2.out, by rw [← HDONE.out]; exact HD.out.symm, HK.out.drop2⟩
                case measure => simp [intOf]; omega
              · go_wp2
                go_roundw
                case rel => exact ⟨i + 1, _, by omega, by go_num, HSH2.out, by rw [← HDONE.out]; exact HD.out.symm, HK.out.drop2⟩
                case measure => simp [intOf]; omega
        · obtain rfl : n0 = 0 := by rw [HN0.out, hf]; rfl
          obtain rfl : M = 0 := by have := HMM.out; omega
          clear hf hw5
          go_wp2
          clear c1 e0 e1 e2
          rw [← HW5.out, ← HB5.out]
          go_loopw [7] (fun v7 wx => v7 = .int .i64 0 ∧ wx = w5) (fun _ _ => 0)
          case atStart => exact ⟨rfl, rfl⟩
          case round =>
            obtain ⟨rfl, rfl⟩ := hrel
            have q1 := (HG5.out.cellV 1 rfl 1 rfl).1
            go_wp2
            go_roundw
            case rel => exact ⟨i + 1, _, by omega, by go_num, HSH2.out, by rw [← HDONE.out]; exact HD.out.symm, HG5.out.drop2⟩
            case measure => simp [intOf]; omega
    · have hil2 : i = len := by omega
      have HFS : Hid (FIN = safe') := by
        show FIN = safe'
        rw [← HA.out, List.drop_eq_nil_of_le (by have := HLEN.out; omega)]
        rfl
      have f1 := (G.out.cellV 1 rfl 1 rfl).2
      have H1 := Lib.hid (G.out.storeV 1 rfl 1 (.slice none 0 0))
      clear G
      go_wp2
      go_end0
      refine ⟨rfl, HE.out _ ?_⟩
      rw [HFS.out]
      exact H1.out
end Fla
end Go.Proofs.Ytepllhfofhehaaa
