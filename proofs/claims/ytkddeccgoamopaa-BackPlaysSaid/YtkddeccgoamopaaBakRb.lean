/- Layer 8: the document's disk: Write, Read, what a crash leaves. -/
import Derived.Test.YtkddeccgoamopaaBakR
import Derived.Test.YtkddeccgoamopaaLaxF
namespace Go.Proofs.Ytkddeccgoamopaa
open Go.RowKit Go.Own
namespace Bak
open Go.BakM Byt

set_option maxHeartbeats 1600000 in
theorem writeR_any {B : Nat} {w0 w : World} {Ps : List Asn} {p : Nat} {vS : Value} {s : DS} {N : Nat} (H : Own.St B w0 w (ARef p vS s :: Ps)) (hok : Ok s N) (hN : N ≤ 100000) (at' : Int) (b : Bs) :
    Calls Try.prog 33 #[ptr p, .int .i64 at', strV b] w fun e w' => e = .returned (errV (write s at' b).2) ∧ Own.St B w0 w' (ARef p vS (write s at' b).1 :: Ps) := by
  obtain ⟨R, hR⟩ : ∃ R, R = write s at' b := ⟨_, rfl⟩
  rw [← hR]
  have HSZ := strB_size b
  obtain ⟨vL, H'⟩ := ref_open H
  obtain ⟨aS, cS, rfl⟩ := H'.rowForm 1 rfl
  have c0 := (H'.cellV 0 rfl 0 rfl).1
  have hlen := hok.len
  by_cases h0 : at' < 0
  · have HR : Hid (R = (s, 1)) := by show R = _; rw [hR]; unfold write; rw [if_pos (.inl (by unfold there; exact decide_eq_false (by omega)))]
    have HH := Lib.hid H
    clear hR H H'
    go_enter Try.func33, Try.ntmps33
    go_wp2
    go_ret
    rw [HR.out]
    exact ⟨rfl, HH.out⟩
  by_cases h1 : at' < (s.safe.length : Int)
  · by_cases hb : b.length = 256
    · obtain ⟨i, rfl⟩ := Int.eq_ofNat_of_zero_le (show 0 ≤ at' by omega)
      rw [hb] at HSZ
      have HR : Hid (R = if (trip s).off then (trip s, 6) else (okd { trip s with L := (trip s).L ++ [⟨i, b⟩] }, 0)) := by
        show R = _; rw [hR]; unfold write; rw [if_neg (by rw [hb]; unfold there; simp; omega)]; rfl
      have HOK2 := Lib.hid (ok_trip hok)
      have O1 := Lib.hid (off_any H)
      clear hR H H'
      go_enter Try.func33, Try.ntmps33
      go_wp2_with (fail)
      refine O1.out.mono ?_
      clear O1 c0
      rintro e w3 ⟨rfl, h3⟩
      have H3 := Lib.hid h3
      clear h3
      cases hto : (trip s).off with
      | true =>
        have HR2 : Hid (R = (trip s, 6)) := by show R = _; rw [HR.out, if_pos hto]
        clear hto
        go_wp2
        go_ret
        rw [HR2.out]
        exact ⟨rfl, H3.out⟩
      | false =>
        have HR2 : Hid (R = (okd { trip s with L := (trip s).L ++ [⟨i, b⟩] }, 0)) := by show R = _; rw [HR.out, if_neg (by rw [hto]; simp)]
        clear hto HR
        obtain ⟨vL', H3'⟩ := ref_open H3.out
        obtain ⟨a0, b0, rfl⟩ := H3'.rowForm 2 rfl
        have c1 := (H3'.cellV 0 rfl 1 rfl).1
        have HLL : Hid ((trip s).L.length + 1 ≤ 100000000) := by show _ ≤ _; have := HOK2.out.log; have := HOK2.out.n; omega
        have H4 := Lib.hid (H3'.alloc (.cells #[.int .i64 (i : Int), strV b] 76))
        have TC := Lib.hid (put_cells w3 ⟨i, b⟩ 76)
        clear H3 H3'
        go_wp2_with (at_builtin; refine wpList_rowP_append rfl (.tmp 29) (.tmp 33) rfl H4.out 2 rfl rfl ⟨w3.heap.size, 0, none⟩ ⟨i, b⟩ rfl TC.out HLL.out ?_; intro a4 c4 w4 h4; simp only [List.set_cons_zero, List.set_cons_succ] at h4; have d1 := (h4.cellV 0 rfl 1 rfl).1; have f1 := (h4.cellV 0 rfl 1 rfl).2; have H5 := Lib.hid h4; clear h4)
        have H6 : Hid (Own.St B w0 (w4.setCell ⟨p, 1, none⟩ (.slice a4 ((trip s).L.length + 1) c4)) (ARef p _ { trip s with L := (trip s).L ++ [⟨i, b⟩] } :: Ps)) :=
          ref_close (s := { trip s with L := (trip s).L ++ [⟨i, b⟩] }) (H5.out.storeV 0 rfl 1 (.slice a4 ((trip s).L.length + 1) c4))
        clear H5 H4 d1 f1
        refine (done_any H6.out (by have := HOK2.out.n; show (trip s).n ≤ _; omega) HOK2.out.left).mono ?_
        rintro e w5 ⟨rfl, h5⟩
        have H7 := Lib.hid h5
        go_wp2
        go_ret
        rw [HR2.out]
        exact ⟨rfl, H7.out⟩
    · have HR : Hid (R = (s, 1)) := by show R = _; rw [hR]; unfold write; rw [if_pos (.inr hb)]
      have HH := Lib.hid H
      have hb' : ((b.length : Int) != 256) = true := by simp only [bne_iff_ne, ne_eq]; omega
      have hb2 : ¬ (b.length : Int) = 256 := by omega
      clear hR H H'
      go_enter Try.func33, Try.ntmps33
      go_wp2
      go_ret
      rw [HR.out]
      exact ⟨rfl, HH.out⟩
  · have HR : Hid (R = (s, 1)) := by show R = _; rw [hR]; unfold write; rw [if_pos (.inl (by unfold there; exact decide_eq_false (by omega)))]
    have HH := Lib.hid H
    clear hR H H'
    go_enter Try.func33, Try.ntmps33
    go_wp2
    go_ret
    rw [HR.out]
    exact ⟨rfl, HH.out⟩

theorem take_rev (L : List BakM.Put) (j : Nat) (a : BakM.Put) (h : L[j]? = some a) : (L.take (j + 1)).reverse = a :: (L.take j).reverse := by
  rw [List.take_add_one, h]; simp
theorem nowR_cons (a : BakM.Put) (r : List BakM.Put) (i : Nat) : nowR (a :: r) i = if a.pos = i then some a.b else nowR r i := rfl
set_option maxHeartbeats 1600000 in
theorem readR_any {B : Nat} {w0 w : World} {Ps : List Asn} {p : Nat} {vS : Value} {s : DS} {N : Nat} (H : Own.St B w0 w (ARef p vS s :: Ps)) (hok : Ok s N) (hN : N ≤ 100000) (at' : Int) :
    Calls Try.prog 22 #[ptr p, .int .i64 at'] w fun e w' => e = .returned (.tuple #[strV (BakM.read s at').1, errV (BakM.read s at').2]) ∧ Below w.heap.size w w' := by
  obtain ⟨R, hR⟩ : ∃ R, R = BakM.read s at' := ⟨_, rfl⟩
  rw [← hR]
  obtain ⟨vL, H'⟩ := ref_open H
  obtain ⟨aS, cS, rfl⟩ := H'.rowForm 1 rfl
  have c0 := (H'.cellV 0 rfl 0 rfl).1
  have c2 := (H'.cellV 0 rfl 2 rfl).1
  have hlen := hok.len
  by_cases h0 : at' < 0
  · have HR : Hid (R = ([], 1)) := by show R = _; rw [hR]; unfold BakM.read; rw [if_pos (by unfold there; exact decide_eq_false (by omega))]
    clear hR H H'
    go_enter Try.func22, Try.ntmps22
    go_wp2
    go_ret2
    rw [HR.out]
    exact ⟨rfl, Below.refl _ _⟩
  by_cases h1 : at' < (s.safe.length : Int)
  · have hth : ¬ there s at' = false := by unfold there; simp; omega
    cases ho : s.off with
    | true =>
      rw [ho] at c2
      have HR : Hid (R = ([], 6)) := by show R = _; rw [hR]; unfold BakM.read; rw [if_neg hth, if_pos ho]
      clear hR H H' hth ho
      go_enter Try.func22, Try.ntmps22
      go_wp2
      go_ret2
      rw [HR.out]
      exact ⟨rfl, Below.refl _ _⟩
    | false =>
      rw [ho] at c2
      obtain ⟨i, rfl⟩ := Int.eq_ofNat_of_zero_le (show 0 ≤ at' by omega)
      have hin : i < s.safe.length := by omega
      obtain ⟨gS, rfl, d1, _, _⟩ := rowS_at H' 1 rfl i hin
      obtain ⟨aL, cL, rfl⟩ := H'.rowForm 2 rfl
      have c1 := (H'.cellV 0 rfl 1 rfl).1
      have HL : Hid (∀ j a, s.L[j]? = some a → ∃ g, aL = some ⟨g, 0, none⟩ ∧ w.cell? ⟨g, j * 2, none⟩ = some (natV a.pos) ∧ w.cell? ⟨g, j * 2 + 1, none⟩ = some (strV a.b)) := by
        intro j a ha
        obtain ⟨g, c', e, h1, h2⟩ := rowP_at H' 2 rfl j a ha
        cases e
        exact ⟨g, rfl, h1, h2⟩
      obtain ⟨x, hx⟩ : ∃ x, x = s.safe.getD i [] := ⟨_, rfl⟩
      rw [← hx] at d1
      obtain ⟨nS, hnS⟩ : ∃ n, n = s.safe.length := ⟨_, rfl⟩
      rw [← hnS] at c0 h1 hin hlen
      obtain ⟨len, hlen'⟩ : ∃ len, len = s.L.length := ⟨_, rfl⟩
      rw [← hlen'] at c1
      have hlenb : len ≤ 100000 := by rw [hlen']; exact Nat.le_trans hok.log (Nat.le_trans hok.n hN)
      have HLEN := Lib.hid hlen'
      have HR : Hid (R = ((nowR s.L.reverse i).getD x, 0)) := by show R = _; rw [hR]; unfold BakM.read; rw [if_neg hth, if_neg (by rw [ho]; simp), hx]; rfl
      clear hR H H' hth ho hok hx hnS hlen'
      go_enter Try.func22, Try.ntmps22
      go_wp2
      go_loopw [6] (fun v wr => ∃ m : Nat, m ≤ len ∧ v = .int .i64 ((m : Int) - 1) ∧ wr = w ∧ nowR s.L.reverse i = nowR (s.L.take m).reverse i) (fun v _ => (intOf v + 1).toNat)
      case atStart => exact ⟨len, Nat.le_refl _, rfl, rfl, by rw [HLEN.out, List.take_length]⟩
      case round =>
        obtain ⟨m, hml, rfl, rfl, hnow⟩ := hrel
        have HNOW := Lib.hid hnow
        clear hnow
        cases m with
        | zero =>
          have HE : Hid (R = (x, 0)) := by show R = _; rw [HR.out, HNOW.out]; rfl
          rw [show ((0 : Nat) : Int) - 1 = -1 by omega]
          go_wp2
          go_ret2
          rw [HE.out]
          exact ⟨rfl, Below.refl _ _⟩
        | succ j =>
          rw [show ((j + 1 : Nat) : Int) - 1 = (j : Int) by omega]
          obtain ⟨a, ha⟩ : ∃ a, s.L[j]? = some a := ⟨_, List.getElem?_eq_getElem (by have := HLEN.out; omega)⟩
          obtain ⟨g, rfl, e0, e1⟩ := HL.out j a ha
          have HTK := Lib.hid (take_rev s.L j a ha)
          have hjl : j < len := by omega
          clear ha
          obtain ⟨ps, pb⟩ := a
          simp only at e0 e1
          by_cases hs : ps = i
          · subst hs
            have HE : Hid (R = (pb, 0)) := by show R = _; rw [HR.out, HNOW.out, HTK.out, nowR_cons, if_pos rfl]; rfl
            go_wp2
            go_ret2
            rw [HE.out]
            exact ⟨rfl, Below.refl _ _⟩
          · have hs' : ((ps : Int) == (i : Int)) = false := by simp only [beq_eq_false_iff_ne, ne_eq]; omega
            have HN2 : Hid (nowR s.L.reverse i = nowR (s.L.take j).reverse i) := by show _ = _; rw [HNOW.out, HTK.out, nowR_cons, if_neg hs]
            clear hs
            go_wp2
            go_roundw
            case rel => exact ⟨j, by omega, by go_num, trivial, HN2.out⟩
            case measure => simp [intOf]; try omega
  · have HR : Hid (R = ([], 1)) := by show R = _; rw [hR]; unfold BakM.read; rw [if_pos (by unfold there; exact decide_eq_false (by omega))]
    clear hR H H'
    go_enter Try.func22, Try.ntmps22
    go_wp2
    go_ret2
    rw [HR.out]
    exact ⟨rfl, Below.refl _ _⟩
end Bak
end Go.Proofs.Ytkddeccgoamopaa
