/- Tables of pages of one's own: rows whose elements have 128 cells each. -/
import Derived.Test.YtepllhfofhehaaaFlbM
import Derived.Test.YtepllhfofhehaaaGri
import Derived.Test.YtepllhfofhehaaaCpy
import Derived.Test.YtepllhfofhehaaaArrEq
namespace Go.Own
open Go.RowKit Go.FlaM
section
variable {B : Nat} {w0 : World} {e : TypeId} {size n cap : Nat}
/-- several cells of a row of one's own, from o on, are written -/
theorem St.rowCells (i : Nat) {g : Nat} : ∀ (r : List Value) (o : Nat) (w : World) (Ps : List Asn) (xs : List Value), St B w0 w Ps → Ps[i]? = some (ARow e size (.slice (some ⟨g, 0, none⟩) n cap) n xs) → o + r.length ≤ n * size →
    St B w0 (w.setCells g o r) (Ps.set i (ARow e size (.slice (some ⟨g, 0, none⟩) n cap) n (xs.take o ++ r ++ xs.drop (o + r.length))))
  | [], o, w, Ps, l, h, hi, hl => by
    have ee : l.take o ++ [] ++ l.drop (o + ([] : List Value).length) = l := by simp
    rw [ee]
    have hs : Ps.set i (ARow e size (.slice (some ⟨g, 0, none⟩) n cap) n l) = Ps := by
      apply List.ext_getElem?
      intro j
      by_cases hj : j = i
      · subst hj
        rw [List.getElem?_set_self (List.getElem?_eq_some_iff.1 hi).1, hi]
      · rw [List.getElem?_set_ne (Ne.symm hj)]
    rw [hs]
    exact h
  | c :: r, o, w, Ps, l, h, hi, hl => by
    have hlen := (h.rowLen i hi).1
    have hon : o < n * size := by simp at hl; omega
    obtain ⟨g', hg', _, _, put⟩ := h.rowAt i hi o hon
    cases hg'
    have hlt : i < Ps.length := (List.getElem?_eq_some_iff.1 hi).1
    have h2 := St.rowCells i r (o + 1) _ _ (l.set o c) (put c) (by rw [List.getElem?_set_self hlt]) (by simp at hl ⊢; omega)
    rw [List.set_set] at h2
    have ee : (l.set o c).take (o + 1) ++ r ++ (l.set o c).drop (o + 1 + r.length) = l.take o ++ (c :: r) ++ l.drop (o + (c :: r).length) := by
      have ho : o < l.length := by omega
      have e0 : (l.set o c).take o = l.take o := by
        apply List.ext_getElem?
        intro j
        by_cases hj : j < o
        · rw [List.getElem?_take_of_lt hj, List.getElem?_take_of_lt hj, List.getElem?_set_ne (by omega)]
        · rw [List.getElem?_eq_none (by simp; omega), List.getElem?_eq_none (by simp; omega)]
      have e1 : (l.set o c).drop (o + 1 + r.length) = l.drop (o + (c :: r).length) := by
        apply List.ext_getElem?
        intro j
        rw [List.getElem?_drop, List.getElem?_drop, List.getElem?_set_ne (by omega)]
        congr 1
        simp
        omega
      rw [List.take_succ_eq_append_getElem (by simpa using ho), e0, e1]
      simp
    rw [ee] at h2
    exact h2
/-- the cells of a row, from o on -/
theorem St.rowRange {w : World} {Ps : List Asn} (H : St B w0 w Ps) (i : Nat) {g : Nat} {xs : List Value} (hi : Ps[i]? = some (ARow e size (.slice (some ⟨g, 0, none⟩) n cap) n xs)) (j : Nat) (hj : j < n * size) : w.cell? ⟨g, j, none⟩ = xs[j]? ∧ w.frozen? ⟨g, j, none⟩ = false := by
  obtain ⟨g', hg', ⟨u, hu, hc⟩, hf, _⟩ := H.rowAt i hi j hj
  cases hg'
  exact ⟨by rw [hc, hu], hf⟩
end

section
variable {t e : TypeId}
def pRow (e : TypeId) (r : Option Addr × Nat) (row : List Bs) : Asn := ARow e 128 (gsl r row.length) row.length (row.flatten.map byteV)
def pParts (t e : TypeId) (v : Value) (rs : List (Option Addr × Nat)) (rows : List (List Bs)) : List Asn := gOuter t v rs rows :: List.zipWith (pRow e) rs rows
def PGrid (t e : TypeId) (v : Value) (rows : List (List Bs)) : Asn := AEx (α := { rs : List (Option Addr × Nat) // rs.length = rows.length }) fun rs => AJoin (pParts t e v rs.1 rows)

variable {B : Nat} {w0 w w' : World} {Ps Qs : List Asn} {v : Value} {rows : List (List Bs)}
theorem St.pOpen (h : St B w0 w (PGrid t e v rows :: Ps)) : ∃ rs, rs.length = rows.length ∧ St B w0 w (pParts t e v rs rows ++ Ps) := by
  obtain ⟨⟨rs, hl⟩, h⟩ := h.openE
  exact ⟨rs, hl, h.openJ⟩
theorem St.pClose {rs : List (Option Addr × Nat)} (hl : rs.length = rows.length) (h : St B w0 w (pParts t e v rs rows ++ Ps)) : St B w0 w (PGrid t e v rows :: Ps) :=
  St.closeE (α := { rs : List (Option Addr × Nat) // rs.length = rows.length }) (P := fun rs => AJoin (pParts t e v rs.1 rows)) ⟨rs, hl⟩ h.closeJ
/-- a row of a table: to the front, and back -/
theorem St.pRowAt (H : St B w0 w (PGrid t e v rows :: Ps)) (i : Nat) (row : List Bs) (hi : rows[i]? = some row) :
    ∃ (g c : Nat) (r : Option Addr × Nat) (Qs : List Asn), v = .slice (some ⟨g, 0, none⟩) rows.length c ∧ w.cell? ⟨g, i, none⟩ = some (gsl r row.length) ∧ St B w0 w (pRow e r row :: Qs) ∧
      ∀ (w' : World) (row' : List Bs), row'.length = row.length → St B w0 w' (pRow e r row' :: Qs) → St B w0 w' (PGrid t e v (rows.set i row') :: Ps) := by
  obtain ⟨rs, hl, h⟩ := H.pOpen
  have hil := (List.getElem?_eq_some_iff.1 hi).1
  have hr : rs[i]? = some rs[i] := List.getElem?_eq_getElem (by omega)
  have h0 : (pParts t e v rs rows ++ Ps)[0]? = some (gOuter t v rs rows) := rfl
  obtain ⟨ao0, c, rfl⟩ := h.rowForm 0 h0
  obtain ⟨g, rfl, ⟨u, hu, hc⟩, _, _⟩ := h.rowAt 0 h0 i (by omega)
  rw [zip_at _ _ _ _ _ _ hr hi] at hu
  cases hu
  have hz := zip_at (pRow e) rs rows i _ _ hr hi
  have hzl := (List.getElem?_eq_some_iff.1 hz).1
  have h1 : (pParts t e (.slice (some ⟨g, 0, none⟩) rows.length c) rs rows ++ Ps)[i + 1]? = some (pRow e rs[i] row) := by
    unfold pParts
    rw [List.cons_append, List.getElem?_cons_succ, List.getElem?_append_left hzl]
    exact hz
  refine ⟨g, c, rs[i], _, rfl, hc, h.front (i + 1) h1, fun w' row' hlen h' => ?_⟩
  refine St.pClose (rs := rs) (by rw [List.length_set]; exact hl) ?_
  have h2 := h'.back (i + 1) (List.getElem?_eq_some_iff.1 h1).1
  have e1 : (pParts t e (.slice (some ⟨g, 0, none⟩) rows.length c) rs rows ++ Ps).set (i + 1) (pRow e rs[i] row') = pParts t e (.slice (some ⟨g, 0, none⟩) rows.length c) rs (rows.set i row') ++ Ps := by
    unfold pParts
    rw [List.cons_append, List.set_cons_succ, List.set_append_left _ _ hzl, zip_set _ _ _ _ _ _ hr, List.cons_append]
    congr 1
    unfold gOuter
    rw [List.length_set, zip_same (fun r row => gsl r row.length) (fun r row => gsl r row.length) rs rows i row row' hi (fun r => by rw [hlen])]
  rw [← e1]
  exact h2
theorem perm_put {α : Type _} (Z : List α) (Ps : List α) (i : Nat) (x y : α) (h : Z[i]? = some y) : (Z ++ x :: Ps).Perm (y :: (Z.set i x ++ Ps)) := by
  obtain ⟨hl, rfl⟩ := List.getElem?_eq_some_iff.1 h
  have p1 : (Z ++ x :: Ps).Perm (x :: (Z ++ Ps)) := List.perm_middle
  have p2 : (Z[i] :: Z.eraseIdx i).Perm Z := erase_perm Z i hl
  have hl2 : i < (Z.set i x).length := by simpa using hl
  have p3 := erase_perm (Z.set i x) i hl2
  rw [List.getElem_set_self, List.eraseIdx_set_eq] at p3
  refine p1.trans ?_
  refine ((p2.symm.append_right Ps).cons x).trans ?_
  refine (List.Perm.swap Z[i] x _).trans ?_
  exact (p3.append_right Ps).cons _
/-- a row becomes part of a table, in another's place -/
theorem St.pPut {r : Option Addr × Nat} {row' : List Bs} (H : St B w0 w (PGrid t e v rows :: pRow e r row' :: Ps)) (i : Nat) (hi : i < rows.length) :
    ∃ (g c : Nat), v = .slice (some ⟨g, 0, none⟩) rows.length c ∧ (∃ u, w.cell? ⟨g, i, none⟩ = some u) ∧ w.frozen? ⟨g, i, none⟩ = false ∧ St B w0 (w.setCell ⟨g, i, none⟩ (gsl r row'.length)) (PGrid t e v (rows.set i row') :: Ps) := by
  obtain ⟨rs, hl, h⟩ := H.pOpen
  have hr : rs[i]? = some rs[i] := List.getElem?_eq_getElem (by omega)
  have hi2 : rows[i]? = some rows[i] := List.getElem?_eq_getElem hi
  have h0 : (pParts t e v rs rows ++ pRow e r row' :: Ps)[0]? = some (gOuter t v rs rows) := rfl
  obtain ⟨ao0, c, rfl⟩ := h.rowForm 0 h0
  obtain ⟨g, rfl, ⟨u, hu, hc⟩, hf, put⟩ := h.rowAt 0 h0 i (by omega)
  refine ⟨g, c, rfl, ⟨u, hc⟩, hf, ?_⟩
  have hp := put (gsl r row'.length)
  unfold pParts at hp
  rw [List.cons_append, List.set_cons_zero] at hp
  have hz := zip_at (pRow e) rs rows i _ _ hr hi2
  have h2 := (hp.perm ((perm_put _ Ps i (pRow e r row') _ hz).cons _)).drop2
  refine St.pClose (rs := rs.set i r) (by rw [List.length_set, List.length_set]; exact hl) ?_
  have e1 : pParts t e (.slice (some ⟨g, 0, none⟩) rows.length c) (rs.set i r) (rows.set i row') = gOuter t (.slice (some ⟨g, 0, none⟩) rows.length c) (rs.set i r) (rows.set i row') :: (List.zipWith (pRow e) rs rows).set i (pRow e r row') := by
    unfold pParts
    congr 1
    apply List.ext_getElem?
    intro j
    rw [List.getElem?_zipWith]
    by_cases hj : i = j
    · subst hj
      rw [List.getElem?_set_self (by omega), List.getElem?_set_self hi, List.getElem?_set_self (by rw [List.length_zipWith]; omega)]
    · rw [List.getElem?_set_ne hj, List.getElem?_set_ne hj, List.getElem?_set_ne hj, List.getElem?_zipWith]
  have e2 : gOuter t (.slice (some ⟨g, 0, none⟩) rows.length c) (rs.set i r) (rows.set i row') = ARow t 1 (.slice (some ⟨g, 0, none⟩) rows.length c) rows.length ((List.zipWith (fun r row => gsl r row.length) rs rows).set i (gsl r row'.length)) := by
    unfold gOuter
    rw [List.length_set]
    congr 1
    apply List.ext_getElem?
    intro j
    rw [List.getElem?_zipWith]
    by_cases hj : i = j
    · subst hj
      rw [List.getElem?_set_self (by omega), List.getElem?_set_self hi, List.getElem?_set_self (by rw [List.length_zipWith]; omega)]
    · rw [List.getElem?_set_ne hj, List.getElem?_set_ne hj, List.getElem?_set_ne hj, List.getElem?_zipWith]
  rw [e1, e2, List.cons_append]
  exact h2
theorem St.freshRows {e : TypeId} {size : Nat} {Q : Asn} : ∀ (n : Nat) {Ps : List Asn}, St B w0 w (Q :: Ps) → St B w0 w (Q :: (List.replicate n (ARow e size (.slice none 0 0) 0 []) ++ Ps))
  | 0, _, h => h
  | n + 1, _, h => by
    rw [List.replicate_succ, List.cons_append]
    exact (St.freshRows n h).rowFresh.swap2
/-- make([][]T, n) -/
theorem St.pMake {P : Program} {t2 : TypeId} {bytes : Nat} (O : One P t2 t (.slice none 0 0) bytes) (H : St B w0 w Ps) (kl kc : IntKind) (n : Nat) (hn : n ≤ 100000000) (b2 : bytes ≤ 1000) :
    ∃ w' g, (Instr.makeSlice t2 (.int kl (n : Int)) (.int kc (n : Int))).run P w = .ok (.slice (some ⟨g, 0, none⟩) n n) w' ∧ St B w0 w' (PGrid t e (.slice (some ⟨g, 0, none⟩) n n) (List.replicate n []) :: Ps) := by
  obtain ⟨w', g, hr, h⟩ := St.oneMake O H kl kc n hn b2 rfl
  refine ⟨w', g, hr, St.pClose (rs := List.replicate n (none, 0)) (by simp) ?_⟩
  have h2 := St.freshRows (e := e) (size := 128) n h
  have e1 : pParts t e (.slice (some ⟨g, 0, none⟩) n n) (List.replicate n (none, 0)) (List.replicate n []) = ARow t 1 (.slice (some ⟨g, 0, none⟩) n n) n (List.replicate n (.slice none 0 0)) :: List.replicate n (ARow e 128 (.slice none 0 0) 0 []) := by
    unfold pParts gOuter
    rw [List.zipWith_replicate, List.zipWith_replicate, List.length_replicate, Nat.min_self]
    rfl
  rw [e1, List.cons_append]
  exact h2
end
end Go.Own
