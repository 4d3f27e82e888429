/- Layer 8: the document's disk: some, Crash, Barrier. -/
import Derived.Test.YtkddeccgoamopaaBakRb
namespace Go.Proofs.Ytkddeccgoamopaa
open Go.RowKit Go.Own
namespace Bak
open Go.BakM Byt

theorem doAll_step (t : Nat) (safe : List Bs) (i : Nat) (L : List BakM.Put) (a : BakM.Put) (h : L[i]? = some a) : doAll t safe i (L.drop i) = doAll t (if bitOf t i then safe.set a.pos a.b else safe) (i + 1) (L.drop (i + 1)) := by
  obtain ⟨hi, e⟩ := List.getElem?_eq_some_iff.1 h
  rw [List.drop_eq_getElem_cons hi, e]
  rfl
theorem bit_test (t k : Nat) (v : Bool) (h : decide (t / 2 ^ k % 2 = 1) = v) : ((((t : Int) / 2 ^ k).tmod 2) == 1) = v := by
  have e : ((t : Int) / 2 ^ k) = ((t / 2 ^ k : Nat) : Int) := by simp
  rw [e, ← h, show ((2 : Int)) = ((2 : Nat) : Int) from rfl, ← Int.ofNat_tmod]
  generalize t / 2 ^ k % 2 = x
  by_cases hx : x = 1
  · subst hx; rfl
  · have h1 : ¬ ((x : Nat) : Int) = 1 := by omega
    simp [hx, h1]
theorem idxS {o : Oper} {x y : Tmp} (ho : o.op = .indexAddr 43 (.tmp x) (.tmp y)) (g n c k : Nat) (hk : k < n) : ∀ (ρ : Operand → Value) w, ρ (.tmp x) = .slice (some ⟨g, 0, none⟩) n c → ρ (.tmp y) = .int .i64 (k : Int) → (execOp ρ o).run Try.prog w = .ok (.value (.pointer (some ⟨g, k, none⟩))) w := by
  intro ρ w h0 h1
  have hk' : (k : Int) < (n : Int) := by omega
  simp [execOp, ho, h0, h1, go_sem, hk, hk', add_of]
theorem idxP {o : Oper} {x y : Tmp} (ho : o.op = .indexAddr 44 (.tmp x) (.tmp y)) (g n c k : Nat) (hk : k < n) : ∀ (ρ : Operand → Value) w, ρ (.tmp x) = .slice (some ⟨g, 0, none⟩) n c → ρ (.tmp y) = .int .i64 (k : Int) → (execOp ρ o).run Try.prog w = .ok (.value (.pointer (some ⟨g, k * 2, none⟩))) w := by
  intro ρ w h0 h1
  have hk' : (k : Int) < (n : Int) := by omega
  simp [execOp, ho, h0, h1, go_sem, hk, hk', add_of, Nat.mul_comm]
set_option maxHeartbeats 4000000 in
theorem some_any {B : Nat} {w0 w : World} {Ps : List Asn} {p : Nat} {vS : Value} {s : DS} {N : Nat} (H : Own.St B w0 w (ARef p vS s :: Ps)) (hok : Ok s N) (hN : N ≤ 100000) (t : Nat) (ht : t ≤ 18446744073709551615) :
    Calls Try.prog 41 #[ptr p, .int .u64 (t : Int)] w fun e w' => e = .returned (.tuple #[]) ∧ Own.St B w0 w' (ARef p vS (some' s t) :: Ps) := by
  obtain ⟨vL, H⟩ := ref_open H
  obtain ⟨aS, cS, rfl⟩ := H.rowForm 1 rfl
  obtain ⟨aL, cL, rfl⟩ := H.rowForm 2 rfl
  obtain ⟨nS, hnS⟩ : ∃ n, n = s.safe.length := ⟨_, rfl⟩
  obtain ⟨len, hlen⟩ : ∃ n, n = s.L.length := ⟨_, rfl⟩
  rw [← hnS, ← hlen] at H
  rw [← hnS]
  obtain ⟨FIN, hFIN⟩ : ∃ F, F = doAll t s.safe 0 s.L := ⟨_, rfl⟩
  have HLEN := Lib.hid hlen
  have HNS := Lib.hid hnS
  have HOK := Lib.hid hok
  have hlenb : len ≤ 100000 := by rw [hlen]; exact Nat.le_trans hok.log (Nat.le_trans hok.n hN)
  have HFIN := Lib.hid hFIN
  have HE : Hid (∀ w', Own.St B w0 w' (AVals p 46 ((diskCells (.slice aS nS cS) (.slice aL len cL) s).set 1 (.slice none 0 0)) :: RowS (.slice aS nS cS) FIN :: RowP (.slice aL len cL) s.L :: Ps) → Own.St B w0 w' (ARef p (.slice aS nS cS) (some' s t) :: Ps)) := by
    intro w' h
    have h2 : Own.St B w0 w' (RowP (.slice none 0 0) [] :: AVals p 46 ((diskCells (.slice aS nS cS) (.slice aL len cL) s).set 1 (.slice none 0 0)) :: RowS (.slice aS nS cS) FIN :: RowP (.slice aL len cL) s.L :: Ps) := h.rowFresh
    have h3 := (h2.front 3 rfl).drop 1
    have h4 := Own.St.back (Ps := AVals p 46 ((diskCells (.slice aS nS cS) (.slice aL len cL) s).set 1 (.slice none 0 0)) :: RowS (.slice aS nS cS) FIN :: RowP (.slice none 0 0) [] :: Ps) (Q := RowP (.slice none 0 0) []) 2 (by simp) h3
    refine ref_close (s := some' s t) (vS := .slice aS nS cS) (vL := .slice none 0 0) ?_
    unfold some'
    rw [← HFIN.out]
    exact h4
  have HH : Hid (Own.St B w0 w (AVals p 46 (diskCells (.slice aS nS cS) (.slice aL len cL) s) :: RowS (.slice aS nS cS) s.safe :: RowP (.slice aL len cL) s.L :: Ps)) := H
  clear H hlen hnS hok hFIN
  go_enter Try.func41, Try.ntmps41
  go_wp2
  go_loopw [4] (fun v4 wr => ∃ (i : Nat) (safe' : List Bs), i ≤ len ∧ v4 = .int .i64 (i : Int) ∧ safe'.length = nS ∧ doAll t safe' i (s.L.drop i) = FIN ∧ Own.St B w0 wr (AVals p 46 (diskCells (.slice aS nS cS) (.slice aL len cL) s) :: RowS (.slice aS nS cS) safe' :: RowP (.slice aL len cL) s.L :: Ps)) (fun v4 _ => len - (intOf v4).toNat)
  case atStart => exact ⟨0, s.safe, Nat.zero_le _, rfl, HNS.out.symm, by rw [List.drop_zero]; exact HFIN.out.symm, HH.out⟩
  case round =>
    obtain ⟨i, safe', hil, rfl, hsl, hall, hG⟩ := hrel
    have G := Lib.hid hG
    have HS := Lib.hid hsl
    have HA := Lib.hid hall
    clear HH hG hsl hall
    have c1 := (G.out.cellV 0 rfl 1 rfl).1
    by_cases hi : i < len
    · obtain ⟨a, ha⟩ : ∃ a, s.L[i]? = some a := ⟨_, List.getElem?_eq_getElem (by have := HLEN.out; omega)⟩
      have HAC : Hid (a.pos < nS) := by show _ < _; rw [HNS.out]; exact (HOK.out.puts a (List.mem_of_getElem? ha)).1
      obtain ⟨gL, c', e, e0, e1⟩ := rowP_at G.out 2 rfl i a ha
      have eL : aL = some ⟨gL, 0, none⟩ := by cases e; rfl
      subst eL
      clear e
      have HD : Hid (FIN = doAll t (if bitOf t i then safe'.set a.pos a.b else safe') (i + 1) (s.L.drop (i + 1))) := by
        show FIN = _
        rw [← HA.out, doAll_step t safe' i s.L a ha]
      obtain ⟨gS, rfl, cx, fx, put⟩ := rowS_at G.out 1 rfl a.pos (by rw [HS.out]; exact HAC.out)
      have HP := Lib.hid put
      have CP : Hid (∀ wx, Below wr.heap.size wr wx → wx.cell? ⟨gL, i * 2, none⟩ = some (natV a.pos)) := fun wx hwx => cellLater e0 hwx
      have CB : Hid (∀ wx, Below wr.heap.size wr wx → wx.cell? ⟨gL, i * 2 + 1, none⟩ = some (strV a.b)) := fun wx hwx => cellLater e1 hwx
      have CL : Hid (∀ wx, Below wr.heap.size wr wx → wx.cell? ⟨p, 1, none⟩ = some (.slice (some ⟨gL, 0, none⟩) len cL)) := fun wx hwx => cellLater c1 hwx
      have CS : Hid (∀ wx, Below wr.heap.size wr wx → wx.cell? ⟨p, 0, none⟩ = some (.slice (some ⟨gS, 0, none⟩) nS cS)) := fun wx hwx => cellLater (G.out.cellV 0 rfl 0 rfl).1 hwx
      clear ha e0 e1 cx fx put
      have hps : a.pos < nS := HAC.out
      obtain ⟨ps, pb⟩ := a
      simp only at CP CB HP HD hps
      cases hbit : bitOf t i with
      | true =>
        have hsh := bit_test t (i % 64) true hbit
        rw [hbit, if_pos rfl] at HD
        clear hbit
        go_wp2_with (fail)
        clear c1 hsh
        refine wp_laxW_list 21 (by kernel_rfl) (by kernel_rfl) (by kernel_rfl) (by kernel_rfl) (by kernel_rfl) ?_
        simp only [List.take_succ_cons, List.take_zero, List.drop_succ_cons, List.drop_zero]
        refine wpL_move (.pointer (some ⟨p, 0, none⟩)) rfl (by kernel_rfl) (by kernel_rfl) (by kernel_rfl) (by kernel_rfl) ?_
        refine wpL_run1 (x := .tmp 20) (.pointer (some ⟨p, 0, none⟩)) (.pointer (some ⟨p, 0, none⟩)) (by kernel_rfl) (by kernel_rfl) (by kernel_rfl) (by kernel_rfl) (by kernel_rfl) (fun wx ρ hwx h0 hc => by simp [go_sem, h0, hc]) ?_
        refine wpL_run1 (x := .tmp 21) (.pointer (some ⟨p, 0, none⟩)) (.pointer (some ⟨p, 0, none⟩)) (by kernel_rfl) (by kernel_rfl) (by kernel_rfl) (by kernel_rfl) (by kernel_rfl) (fun wx ρ hwx h0 hc => by simp [go_sem, h0, hc]) ?_
        refine wpL_run1 (x := .tmp 22) (.pointer (some ⟨p, 0, none⟩)) (.slice (some ⟨gS, 0, none⟩) nS cS) (by kernel_rfl) (by kernel_rfl) (by kernel_rfl) (by kernel_rfl) (by kernel_rfl) (fun wx ρ hwx h0 hc => by simp [go_sem, h0, hc, CS.out wx hwx]) ?_
        refine wpL_move (.pointer (some ⟨p, 0, none⟩)) rfl (by kernel_rfl) (by kernel_rfl) (by kernel_rfl) (by kernel_rfl) ?_
        refine wpL_run1 (x := .tmp 24) (.pointer (some ⟨p, 0, none⟩)) (.pointer (some ⟨p, 0, none⟩)) (by kernel_rfl) (by kernel_rfl) (by kernel_rfl) (by kernel_rfl) (by kernel_rfl) (fun wx ρ hwx h0 hc => by simp [go_sem, h0, hc]) ?_
        refine wpL_run1 (x := .tmp 25) (.pointer (some ⟨p, 0, none⟩)) (.pointer (some ⟨p, 1, none⟩)) (by kernel_rfl) (by kernel_rfl) (by kernel_rfl) (by kernel_rfl) (by kernel_rfl) (fun wx ρ hwx h0 hc => by simp [go_sem, h0, hc]) ?_
        refine wpL_run1 (x := .tmp 26) (.pointer (some ⟨p, 1, none⟩)) (.slice (some ⟨gL, 0, none⟩) len cL) (by kernel_rfl) (by kernel_rfl) (by kernel_rfl) (by kernel_rfl) (by kernel_rfl) (fun wx ρ hwx h0 hc => by simp [go_sem, h0, hc, CL.out wx hwx]) ?_
        refine wpL_move (.int .i64 (i : Int)) rfl (by kernel_rfl) (by kernel_rfl) (by kernel_rfl) (by kernel_rfl) ?_
        refine wpL_run2 (x := .tmp 27) (y := .tmp 28) (.slice (some ⟨gL, 0, none⟩) len cL) (.int .i64 (i : Int)) (.pointer (some ⟨gL, i * 2, none⟩)) (by kernel_rfl) (by kernel_rfl) (by kernel_rfl) (by kernel_rfl) (by kernel_rfl) (by kernel_rfl) (fun wx ρ hwx h0 h1 hc => idxP rfl gL len cL i hi ρ wx h0 h1) ?_
        refine wpL_run1 (x := .tmp 29) (.pointer (some ⟨gL, i * 2, none⟩)) (.pointer (some ⟨gL, i * 2, none⟩)) (by kernel_rfl) (by kernel_rfl) (by kernel_rfl) (by kernel_rfl) (by kernel_rfl) (fun wx ρ hwx h0 hc => by simp [go_sem, h0, hc]) ?_
        refine wpL_run1 (x := .tmp 30) (.pointer (some ⟨gL, i * 2, none⟩)) (natV ps) (by kernel_rfl) (by kernel_rfl) (by kernel_rfl) (by kernel_rfl) (by kernel_rfl) (fun wx ρ hwx h0 hc => by simp [go_sem, h0, hc, CP.out wx hwx]) ?_
        refine wpL_move (.pointer (some ⟨p, 0, none⟩)) rfl (by kernel_rfl) (by kernel_rfl) (by kernel_rfl) (by kernel_rfl) ?_
        refine wpL_run1 (x := .tmp 32) (.pointer (some ⟨p, 0, none⟩)) (.pointer (some ⟨p, 0, none⟩)) (by kernel_rfl) (by kernel_rfl) (by kernel_rfl) (by kernel_rfl) (by kernel_rfl) (fun wx ρ hwx h0 hc => by simp [go_sem, h0, hc]) ?_
        refine wpL_run1 (x := .tmp 33) (.pointer (some ⟨p, 0, none⟩)) (.pointer (some ⟨p, 1, none⟩)) (by kernel_rfl) (by kernel_rfl) (by kernel_rfl) (by kernel_rfl) (by kernel_rfl) (fun wx ρ hwx h0 hc => by simp [go_sem, h0, hc]) ?_
        refine wpL_run1 (x := .tmp 34) (.pointer (some ⟨p, 1, none⟩)) (.slice (some ⟨gL, 0, none⟩) len cL) (by kernel_rfl) (by kernel_rfl) (by kernel_rfl) (by kernel_rfl) (by kernel_rfl) (fun wx ρ hwx h0 hc => by simp [go_sem, h0, hc, CL.out wx hwx]) ?_
        refine wpL_move (.int .i64 (i : Int)) rfl (by kernel_rfl) (by kernel_rfl) (by kernel_rfl) (by kernel_rfl) ?_
        refine wpL_run2 (x := .tmp 35) (y := .tmp 36) (.slice (some ⟨gL, 0, none⟩) len cL) (.int .i64 (i : Int)) (.pointer (some ⟨gL, i * 2, none⟩)) (by kernel_rfl) (by kernel_rfl) (by kernel_rfl) (by kernel_rfl) (by kernel_rfl) (by kernel_rfl) (fun wx ρ hwx h0 h1 hc => idxP rfl gL len cL i hi ρ wx h0 h1) ?_
        refine wpL_run1 (x := .tmp 37) (.pointer (some ⟨gL, i * 2, none⟩)) (.pointer (some ⟨gL, i * 2 + 1, none⟩)) (by kernel_rfl) (by kernel_rfl) (by kernel_rfl) (by kernel_rfl) (by kernel_rfl) (fun wx ρ hwx h0 hc => by simp [go_sem, h0, hc]) ?_
        refine wpL_run1 (x := .tmp 38) (.pointer (some ⟨gL, i * 2 + 1, none⟩)) (strV pb) (by kernel_rfl) (by kernel_rfl) (by kernel_rfl) (by kernel_rfl) (by kernel_rfl) (fun wx ρ hwx h0 hc => by simp [go_sem, h0, hc, CB.out wx hwx]) ?_
        refine wpL_run2 (x := .tmp 23) (y := .tmp 31) (.slice (some ⟨gS, 0, none⟩) nS cS) (natV ps) (.pointer (some ⟨gS, ps, none⟩)) (by kernel_rfl) (by kernel_rfl) (by kernel_rfl) (by kernel_rfl) (by kernel_rfl) (by kernel_rfl) (fun wx ρ hwx h0 h1 hc => idxS rfl gS nS cS ps hps ρ wx h0 h1) ?_
        refine wpL_end (by kernel_rfl) (fun w9 hw9 => ?_)
        simp only [FinL, setL, List.set_cons_zero, List.set_cons_succ]
        intro _
        obtain ⟨g9, e9, cw9, fw9, put9⟩ := rowS_at (G.out.later hw9) 1 rfl ps (by rw [HS.out]; exact hps)
        cases e9
        have H10 := Lib.hid (put9 pb)
        clear put9 hw9
        go_wp2
        clear cw9 fw9
        go_roundw
        case rel => exact ⟨i + 1, _, by omega, by go_num, by rw [List.length_set]; exact HS.out, HD.out.symm, H10.out⟩
        case measure => simp [intOf]; omega
      | false =>
        have hsh := bit_test t (i % 64) false hbit
        rw [hbit, if_neg (by simp)] at HD
        clear hbit
        go_wp2
        go_roundw
        case rel => exact ⟨i + 1, _, by omega, by go_num, HS.out, HD.out.symm, G.out⟩
        case measure => simp [intOf]; omega
    · have hil2 : i = len := by omega
      have HFS : Hid (FIN = safe') := by
        show FIN = safe'
        rw [← HA.out, List.drop_eq_nil_of_le (by have := HLEN.out; omega)]
        rfl
      have f1 := (G.out.cellV 0 rfl 1 rfl).2
      have H1 := Lib.hid (G.out.storeV 0 rfl 1 (.slice none 0 0))
      clear G
      go_wp2
      go_end0
      refine ⟨rfl, HE.out _ ?_⟩
      rw [HFS.out]
      exact H1.out
end Bak
end Go.Proofs.Ytkddeccgoamopaa
