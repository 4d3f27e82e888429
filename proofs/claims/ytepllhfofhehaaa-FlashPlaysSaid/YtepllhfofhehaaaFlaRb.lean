/- Layer 7: the document's flash: a page, sg it is. -/
import Derived.Test.YtepllhfofhehaaaFlaR
namespace Go.Proofs.Ytepllhfofhehaaa
open Go.RowKit Go.Own
namespace Fla
open Go.FlaM Byt

theorem acts_at (L : List FlaM.Act) : ∀ j a, L[j]? = some a → (L.flatMap actR)[j * 3]? = some (.int .i64 (a.seg : Int)) ∧ (L.flatMap actR)[j * 3 + 1]? = some (.int .i64 a.page) ∧ (L.flatMap actR)[j * 3 + 2]? = some (strV a.b) := by
  induction L with
  | nil => intro j a h; simp at h
  | cons x L ih =>
    intro j a h
    have e : (x :: L).flatMap actR = .int .i64 (x.seg : Int) :: .int .i64 x.page :: strV x.b :: L.flatMap actR := rfl
    cases j with
    | zero =>
      simp only [List.getElem?_cons_zero, Option.some.injEq] at h
      subst h
      rw [e]
      exact ⟨rfl, rfl, rfl⟩
    | succ j =>
      have := ih j a (by simpa using h)
      rw [e, show (j + 1) * 3 = j * 3 + 1 + 1 + 1 by omega]
      exact this
theorem acts_len (L : List FlaM.Act) : (L.flatMap actR).length = L.length * 3 := by
  induction L with
  | nil => rfl
  | cons x L ih =>
    have e : (x :: L).flatMap actR = .int .i64 (x.seg : Int) :: .int .i64 x.page :: strV x.b :: L.flatMap actR := rfl
    rw [e]
    simp only [List.length_cons, ih]
    omega
section
variable {B : Nat} {w0 w : World} {Ps : List Asn} {vL : Value} {L : List FlaM.Act}
theorem rowL_form (H : Own.St B w0 w Ps) (i : Nat) (hi : Ps[i]? = some (RowL vL L)) : ∃ ao c, vL = .slice ao L.length c := H.rowForm i hi
theorem rowL_at (H : Own.St B w0 w Ps) (i : Nat) (hi : Ps[i]? = some (RowL vL L)) (j : Nat) (a : FlaM.Act) (ha : L[j]? = some a) :
    ∃ g c, vL = .slice (some ⟨g, 0, none⟩) L.length c ∧ w.cell? ⟨g, j * 3, none⟩ = some (.int .i64 (a.seg : Int)) ∧ w.cell? ⟨g, j * 3 + 1, none⟩ = some (.int .i64 a.page) ∧ w.cell? ⟨g, j * 3 + 2, none⟩ = some (strV a.b) := by
  obtain ⟨ao, c, rfl⟩ := rowL_form H i hi
  have hj := (List.getElem?_eq_some_iff.1 ha).1
  obtain ⟨a0, a1, a2⟩ := acts_at L j a ha
  obtain ⟨g, rfl, ⟨u0, h0, c0⟩, _, _⟩ := H.rowAt i hi (j * 3) (by omega)
  obtain ⟨g1, e1, ⟨u1, h1, c1⟩, _, _⟩ := H.rowAt i hi (j * 3 + 1) (by omega)
  obtain ⟨g2, e2, ⟨u2, h2, c2⟩, _, _⟩ := H.rowAt i hi (j * 3 + 2) (by omega)
  cases e1
  cases e2
  rw [a0] at h0; cases h0
  rw [a1] at h1; cases h1
  rw [a2] at h2; cases h2
  exact ⟨g, c, rfl, c0, c1, c2⟩
end
theorem take_rev (L : List FlaM.Act) (j : Nat) (a : FlaM.Act) (h : L[j]? = some a) : (L.take (j + 1)).reverse = a :: (L.take j).reverse := by
  rw [List.take_add_one, h]; simp
theorem page_row {safe : List (List Bs)} {i k : Nat} {row : List Bs} {x : Bs} (h1 : safe[i]? = some row) (h2 : row[k]? = some x) : pageAt safe i k = x := by
  simp [pageAt, List.getD_eq_getElem?_getD, h1, h2]

set_option maxHeartbeats 1600000 in
theorem now_any {B : Nat} {w0 w : World} {Ps : List Asn} {p : Nat} {s : FS} {N : Nat} (H : Own.St B w0 w (ARef p s :: Ps)) (hok : Ok s N) (hN : N ≤ 100000) (i k : Nat) (hi : i < s.safe.length) (hk : k < s.pp) :
    Calls Try.prog 55 #[ptr p, .int .i64 (i : Int), .int .i64 (k : Int)] w fun e w' => e = .returned (strV (now s i k)) ∧ Below w.heap.size w w' := by
  obtain ⟨vS, vL, vW, H⟩ := ref_open H
  obtain ⟨row, hrow⟩ : ∃ row, s.safe[i]? = some row := ⟨_, List.getElem?_eq_getElem hi⟩
  have hrl : k < row.length := by
    have h := hok.rows i hi
    rw [List.getD_eq_getElem?_getD, hrow, Option.getD_some] at h
    omega
  obtain ⟨gS, aS, cS, capS, x, rfl, d0, g2, rfl, hx, d1, _, _⟩ := H.gridAt i k row hrow hrl
  obtain ⟨ao, c, rfl⟩ := rowL_form H 2 rfl
  have hpg := page_row hrow hx
  have c0 := (H.cellV 1 rfl 0 rfl).1
  have c1 := (H.cellV 1 rfl 1 rfl).1
  have hlen : s.L.length ≤ 100000 := Nat.le_trans hok.log (Nat.le_trans hok.n hN)
  have HL : Hid (∀ j a, s.L[j]? = some a → ∃ g, ao = some ⟨g, 0, none⟩ ∧ w.cell? ⟨g, j * 3, none⟩ = some (.int .i64 (a.seg : Int)) ∧ w.cell? ⟨g, j * 3 + 1, none⟩ = some (.int .i64 a.page) ∧ w.cell? ⟨g, j * 3 + 2, none⟩ = some (strV a.b)) := by
    intro j a ha
    obtain ⟨g, c', e, h1, h2, h3⟩ := rowL_at H 2 rfl j a ha
    cases e
    exact ⟨g, rfl, h1, h2, h3⟩
  have HOK := Lib.hid hok
  obtain ⟨R, hR⟩ : ∃ R, R = now s i k := ⟨_, rfl⟩
  have HR : Hid (R = (nowR s.L.reverse i k).getD x) := by show R = _; rw [hR]; unfold now; rw [hpg]
  have hsl := hok.segs
  rw [← hR]
  clear hR H hok hpg hx
  obtain ⟨len, hlen'⟩ : ∃ len, len = s.L.length := ⟨_, rfl⟩
  rw [← hlen'] at c1 hlen
  have HLEN := Lib.hid hlen'
  clear hlen'
  go_enter Try.func55, Try.ntmps55
  go_wp2
  go_loopw [7] (fun v wr => ∃ m : Nat, m ≤ len ∧ v = .int .i64 ((m : Int) - 1) ∧ wr = w ∧ nowR s.L.reverse i k = nowR (s.L.take m).reverse i k) (fun v _ => (intOf v + 1).toNat)
  case atStart => exact ⟨len, Nat.le_refl _, rfl, rfl, by rw [HLEN.out, List.take_length]⟩
  case round =>
    obtain ⟨m, hml, rfl, rfl, hnow⟩ := hrel
    have HNOW := Lib.hid hnow
    clear hnow
    cases m with
    | zero =>
      have HE : Hid (R = x) := by show R = x; rw [HR.out, HNOW.out]; rfl
      rw [show ((0 : Nat) : Int) - 1 = -1 by omega]
      go_wp2
      go_ret
      exact ⟨by rw [HE.out]; rfl, Below.refl _ _⟩
    | succ j =>
      rw [show ((j + 1 : Nat) : Int) - 1 = (j : Int) by omega]
      obtain ⟨a, ha⟩ : ∃ a, s.L[j]? = some a := ⟨_, List.getElem?_eq_getElem (by have := HLEN.out; omega)⟩
      obtain ⟨g, rfl, e0, e1, e2⟩ := HL.out j a ha
      have HTK := Lib.hid (take_rev s.L j a ha)
      have hjl : j < len := by omega
      clear ha
      obtain ⟨sg, ap, ab⟩ := a
      simp only at e0 e1 e2
      by_cases hs : sg = i
      · subst hs
        by_cases hp : ap = (k : Int)
        · subst hp
          have HE : Hid (R = ab) := by show R = ab; rw [HR.out, HNOW.out, HTK.out]; unfold nowR; rw [if_pos ⟨rfl, rfl⟩]; rfl
          go_wp2
          go_ret
          exact ⟨by rw [HE.out]; rfl, Below.refl _ _⟩
        · have hp' : (ap == (k : Int)) = false := by simpa using hp
          by_cases hn : ap < 0
          · have HE : Hid (R = FlaM.blank) := by show R = FlaM.blank; rw [HR.out, HNOW.out, HTK.out]; unfold nowR; rw [if_neg (fun h => hp h.2), if_pos ⟨rfl, hn⟩]; rfl
            clear hp
            go_wp2_with (fail)
            refine (erased_any wr).mono ?_
            rintro e w1 ⟨rfl, h1⟩
            have HB1 := Lib.hid h1
            clear h1
            go_wp2
            go_ret
            exact ⟨by rw [HE.out]; rfl, HB1.out⟩
          · have HN2 : Hid (nowR s.L.reverse sg k = nowR (s.L.take j).reverse sg k) := by
              show _ = _
              rw [HNOW.out, HTK.out]
              conv => lhs; unfold nowR
              rw [if_neg (fun h => hp h.2), if_neg (fun h => hn h.2)]
            clear hp
            go_wp2
            go_roundw
            case rel => exact ⟨j, by omega, by go_num, trivial, HN2.out⟩
            case measure => simp [intOf]; try omega
      · have hs' : ((sg : Int) == (i : Int)) = false := by simp only [beq_eq_false_iff_ne, ne_eq]; omega
        have HN2 : Hid (nowR s.L.reverse i k = nowR (s.L.take j).reverse i k) := by
          show _ = _
          rw [HNOW.out, HTK.out]
          conv => lhs; unfold nowR
          rw [if_neg (fun h => hs h.1), if_neg (fun h => hs h.1)]
        clear hs
        go_wp2
        go_roundw
        case rel => exact ⟨j, by omega, by go_num, trivial, HN2.out⟩
        case measure => simp [intOf]; try omega
end Fla
end Go.Proofs.Ytepllhfofhehaaa
