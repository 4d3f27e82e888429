/- Rows of one's own that are read and stored into; objects behind a choice; tables of rows of words. -/
import Derived.Test.YtefbcoakjdjkgaaObj
import Derived.Test.YtefbcoakjdjkgaaByt
namespace Go.Own
open Go.RowKit

/-- an object with some choice in it -/
def AEx {α : Type} (P : α → Asn) : Asn := ⟨fun S w => ∃ x, (P x).holds S w, fun ⟨x, h⟩ g hd => ⟨x, (P x).keep h g hd⟩, fun ⟨x, h⟩ => (P x).lt h⟩
section
variable {B : Nat} {w0 w w' : World} {Ps Qs : List Asn} {α : Type} {P : α → Asn}
theorem St.openE (h : St B w0 w (AEx P :: Ps)) : ∃ x, St B w0 w (P x :: Ps) := by
  obtain ⟨hb, hs, S, ⟨S1, S2, ⟨x, h1⟩, h2, h3, h4⟩, hB⟩ := h
  exact ⟨x, hb, hs, S, ⟨S1, S2, h1, h2, h3, h4⟩, hB⟩
theorem St.closeE (x : α) (h : St B w0 w (P x :: Ps)) : St B w0 w (AEx P :: Ps) := by
  obtain ⟨hb, hs, S, ⟨S1, S2, h1, h2, h3, h4⟩, hB⟩ := h
  exact ⟨hb, hs, S, ⟨S1, S2, ⟨x, h1⟩, h2, h3, h4⟩, hB⟩

variable {e : TypeId} {size n cap : Nat} {ao : Option Addr} {xs : List Value}
theorem St.rowLen (H : St B w0 w Ps) (i : Nat) (hi : Ps[i]? = some (ARow e size (.slice ao n cap) n xs)) : xs.length = n * size ∧ n ≤ cap ∧ cap ≤ maxLen ∧ (ao = none → n = 0 ∧ cap = 0) := by
  obtain ⟨S, hS, _⟩ := H.at i hi
  obtain ⟨ao', cap', hv, h1, h2, h3, _⟩ := Row.form hS
  simp only [Value.slice.injEq, true_and] at hv
  obtain ⟨rfl, rfl⟩ := hv
  exact ⟨hS.own.1, h1, h2, fun h => ⟨(h3 h).1, (h3 h).2.1⟩⟩
theorem St.rowForm {v : Value} (H : St B w0 w Ps) (i : Nat) (hi : Ps[i]? = some (ARow e size v n xs)) : ∃ ao cap, v = .slice ao n cap := by
  obtain ⟨S, hS, _⟩ := H.at i hi
  obtain ⟨ao', cap', hv, _⟩ := Row.form hS
  exact ⟨ao', cap', hv⟩
/-- one cell of a row of one's own: read, stored -/
theorem St.rowAt (H : St B w0 w Ps) (i : Nat) (hi : Ps[i]? = some (ARow e size (.slice ao n cap) n xs)) (j : Nat) (hj : j < n * size) :
    ∃ g, ao = some ⟨g, 0, none⟩ ∧ (∃ u, xs[j]? = some u ∧ w.cell? ⟨g, j, none⟩ = some u) ∧ w.frozen? ⟨g, j, none⟩ = false ∧
      ∀ u : Value, St B w0 (w.setCell ⟨g, j, none⟩ u) (Ps.set i (ARow e size (.slice ao n cap) n (xs.set j u))) := by
  obtain ⟨S, hS, _, put⟩ := H.at i hi
  have hlen := (H.rowLen i hi).1
  obtain ⟨hown, hset⟩ := hS
  rcases hown.2 with ⟨hv, rfl⟩ | ⟨g, cap', cur, hv, h0, hb, hnc, hcm, hcs, htake⟩
  · omega
  · simp only [Value.slice.injEq, true_and] at hv
    obtain ⟨rfl, rfl⟩ := hv
    have hx : xs[j]? = some xs[j] := List.getElem?_eq_getElem (by omega)
    have hcur : cur[j]? = some xs[j] := by
      have : (cur.toList.take (n * size))[j]? = xs[j]? := by rw [htake]
      rw [List.getElem?_take_of_lt hj] at this
      rw [← Array.getElem?_toList, this, hx]
    refine ⟨g, rfl, ⟨_, hx, cell_of_block hb hcur⟩, frozen_of_block hb, fun u => ?_⟩
    exact put S _ (ARow e size (.slice (some ⟨g, 0, none⟩) n cap) n (xs.set j u)) ⟨(hown.stored j u).1, hset⟩ ((Step.refl S w).setCell (a := ⟨g, j, none⟩) (Or.inl ((hset g).2 rfl)) _)
/-- two cells side by side -/
theorem St.rowFresh (H : St B w0 w Ps) : St B w0 w (ARow e size (.slice none 0 0) 0 [] :: Ps) :=
  H.new (S' := fun _ => False) (ARow e size _ 0 []) (Row.nil w e size) (Step.refl (fun _ => False) w)
end

/-! ### a table of rows: [][]T, where an element of T has one cell -/
section
variable {t e : TypeId} {α : Type} {enc : α → Value}
abbrev gsl (r : Option Addr × Nat) (n : Nat) : Value := .slice r.1 n r.2
def gRow (e : TypeId) (enc : α → Value) (r : Option Addr × Nat) (row : List α) : Asn := ARow e 1 (gsl r row.length) row.length (row.map enc)
def gOuter (t : TypeId) (v : Value) (rs : List (Option Addr × Nat)) (rows : List (List α)) : Asn := ARow t 1 v rows.length (List.zipWith (fun r row => gsl r row.length) rs rows)
/-- opened: the outer row, and then the inner ones -/
def gParts (t e : TypeId) (enc : α → Value) (v : Value) (rs : List (Option Addr × Nat)) (rows : List (List α)) : List Asn := gOuter t v rs rows :: List.zipWith (gRow e enc) rs rows
def AGrid (t e : TypeId) (enc : α → Value) (v : Value) (rows : List (List α)) : Asn := AEx (α := { rs : List (Option Addr × Nat) // rs.length = rows.length }) fun rs => AJoin (gParts t e enc v rs.1 rows)

variable {B : Nat} {w0 w w' : World} {Ps Qs : List Asn} {v : Value} {rows : List (List α)}
theorem St.gridOpen (h : St B w0 w (AGrid t e enc v rows :: Ps)) : ∃ rs, rs.length = rows.length ∧ St B w0 w (gParts t e enc v rs rows ++ Ps) := by
  obtain ⟨⟨rs, hl⟩, h⟩ := h.openE
  exact ⟨rs, hl, h.openJ⟩
theorem St.gridClose {rs : List (Option Addr × Nat)} (hl : rs.length = rows.length) (h : St B w0 w (gParts t e enc v rs rows ++ Ps)) : St B w0 w (AGrid t e enc v rows :: Ps) :=
  St.closeE (α := { rs : List (Option Addr × Nat) // rs.length = rows.length }) (P := fun rs => AJoin (gParts t e enc v rs.1 rows)) ⟨rs, hl⟩ h.closeJ
theorem zip_set {β γ δ : Type} (f : β → γ → δ) : ∀ (rs : List β) (xs : List γ) (i : Nat) (r : β) (x : γ), rs[i]? = some r → (List.zipWith f rs xs).set i (f r x) = List.zipWith f rs (xs.set i x)
  | [], _, _, _, _, h => by simp at h
  | _ :: _, [], i, _, _, _ => by simp
  | r :: rs, x :: xs, 0, _, _, h => by simp at h; subst h; simp
  | r :: rs, x :: xs, i + 1, _, _, h => by simp only [List.zipWith_cons_cons, List.set_cons_succ]; rw [zip_set f rs xs i _ _ (by simpa using h)]
theorem zip_at {β γ δ : Type} (f : β → γ → δ) (rs : List β) (xs : List γ) (i : Nat) (r : β) (x : γ) (h1 : rs[i]? = some r) (h2 : xs[i]? = some x) : (List.zipWith f rs xs)[i]? = some (f r x) := by
  rw [List.getElem?_zipWith, h1, h2]
theorem zip_same {β γ δ : Type} (f g : β → γ → δ) (rs : List β) (xs : List γ) (i : Nat) (x y : γ) (h1 : xs[i]? = some x) (h : ∀ r, f r x = f r y) : List.zipWith f rs (xs.set i y) = List.zipWith f rs xs := by
  apply List.ext_getElem?
  intro j
  rw [List.getElem?_zipWith, List.getElem?_zipWith]
  by_cases hj : i = j
  · subst hj
    rw [h1, List.getElem?_set_self (List.getElem?_eq_some_iff.1 h1).1]
    cases rs[i]? with
    | none => rfl
    | some r => simp [h r]
  · rw [List.getElem?_set_ne hj]
/-- row i of a table, and a place in it: read, stored -/
theorem St.gridAt (H : St B w0 w (AGrid t e enc v rows :: Ps)) (i k : Nat) (row : List α) (hi : rows[i]? = some row) (hk : k < row.length) :
    ∃ (g : Nat) (ao : Option Addr) (c cap : Nat) (x : α), v = .slice (some ⟨g, 0, none⟩) rows.length c ∧ w.cell? ⟨g, i, none⟩ = some (.slice ao row.length cap) ∧
      ∃ g2, ao = some ⟨g2, 0, none⟩ ∧ row[k]? = some x ∧ w.cell? ⟨g2, k, none⟩ = some (enc x) ∧ w.frozen? ⟨g2, k, none⟩ = false ∧
        ∀ y : α, St B w0 (w.setCell ⟨g2, k, none⟩ (enc y)) (AGrid t e enc v (rows.set i (row.set k y)) :: Ps) := by
  obtain ⟨rs, hl, h⟩ := H.gridOpen
  have hil := (List.getElem?_eq_some_iff.1 hi).1
  have hr : rs[i]? = some rs[i] := List.getElem?_eq_getElem (by omega)
  have h0 : (gParts t e enc v rs rows ++ Ps)[0]? = some (gOuter t v rs rows) := rfl
  obtain ⟨ao0, c, rfl⟩ := h.rowForm 0 h0
  obtain ⟨g, rfl, ⟨u, hu, hc⟩, _, _⟩ := h.rowAt 0 h0 i (by omega)
  rw [zip_at _ _ _ _ _ _ hr hi] at hu
  cases hu
  have hz := zip_at (gRow e enc) rs rows i _ _ hr hi
  have hzl := (List.getElem?_eq_some_iff.1 hz).1
  have h1 : (gParts t e enc (.slice (some ⟨g, 0, none⟩) rows.length c) rs rows ++ Ps)[i + 1]? = some (gRow e enc rs[i] row) := by
    unfold gParts
    rw [List.cons_append, List.getElem?_cons_succ, List.getElem?_append_left hzl]
    exact hz
  obtain ⟨ao, cap, hrs⟩ : ∃ ao cap, rs[i] = (ao, cap) := ⟨_, _, rfl⟩
  rw [hrs] at hc h1 hr
  obtain ⟨g2, rfl, ⟨u, hu, hc2⟩, hf, put⟩ := h.rowAt (i + 1) h1 k (by omega)
  obtain ⟨x, hx⟩ : ∃ x, row[k]? = some x := ⟨_, List.getElem?_eq_getElem hk⟩
  rw [List.getElem?_map, hx] at hu
  cases hu
  refine ⟨g, some ⟨g2, 0, none⟩, c, cap, x, rfl, hc, g2, rfl, hx, hc2, hf, fun y => ?_⟩
  have hp := put (enc y)
  refine St.gridClose (rs := rs) (by rw [List.length_set]; exact hl) ?_
  have e1 : (gParts t e enc (.slice (some ⟨g, 0, none⟩) rows.length c) rs rows ++ Ps).set (i + 1) (ARow e 1 (.slice (some ⟨g2, 0, none⟩) row.length cap) row.length ((row.map enc).set k (enc y)))
      = gParts t e enc (.slice (some ⟨g, 0, none⟩) rows.length c) rs (rows.set i (row.set k y)) ++ Ps := by
    have e2 : ARow e 1 (.slice (some ⟨g2, 0, none⟩) row.length cap) row.length ((row.map enc).set k (enc y)) = gRow e enc (some ⟨g2, 0, none⟩, cap) (row.set k y) := by
      unfold gRow; show _ = ARow e 1 (.slice (some ⟨g2, 0, none⟩) (row.set k y).length cap) _ _; rw [List.length_set, List.map_set]
    rw [e2]
    unfold gParts
    rw [List.cons_append, List.set_cons_succ, List.set_append_left _ _ hzl, zip_set _ _ _ _ _ _ hr, List.cons_append]
    congr 1
    unfold gOuter
    rw [List.length_set, zip_same (fun r row => gsl r row.length) (fun r row => gsl r row.length) rs rows i row (row.set k y) hi (fun r => by rw [List.length_set])]
  rw [← e1]
  exact hp
end

/-! ### one more: onto a row of elements of one cell, onto a table -/
/-- what the type of an element is like -/
structure One (P : Program) (t e : TypeId) (z : Value) (bytes : Nat) : Prop where
  slice : P.underlying t = some (.slice e)
  info : (P.info? e).map (fun i => (i.zero, i.size, i.bytes)) = some (some z, 1, bytes)
  cell : z.cells.size = 1
theorem info_parts' {P : Program} {e : TypeId} {z : Value} {bytes : Nat} (h : (P.info? e).map (fun i => (i.zero, i.size, i.bytes)) = some (some z, 1, bytes)) : ∃ i, P.info? e = some i ∧ i.zero = some z ∧ i.size = 1 ∧ i.bytes = bytes := by
  obtain ⟨i, h1, h2⟩ := Option.map_eq_some_iff.1 h
  simp only [Prod.mk.injEq] at h2
  exact ⟨i, h1, h2.1, h2.2.1, h2.2.2⟩
section
variable {P : Program} {t e : TypeId} {z : Value} {bytes : Nat} {B : Nat} {w0 w : World} {Ps : List Asn} {v : Value}
theorem wpList_one_append {ops : Array Oper} {rest : List Oper} {o : Oper} {a : Act} {Q : Exit → Act → World → Prop} (O : One P t e z bytes) (hgd : o.guard = none) (s x : Operand)
    (ho : o.op = .call { callee := .builtin .append, args := #[s, x], argTypes := #[t, t] }) (H : St B w0 w Ps) (i : Nat) {n : Nat} {xs : List Value} (hi : Ps[i]? = some (ARow e 1 v n xs)) (hs : a.eval s = v)
    (bo : Addr) (y : Value) (hx : a.eval x = .slice (some bo) 1 1) (hbo : bo.spot = none) (hc : w.cell? bo = some y) (h1 : y.oneCell' = true) (b1 : n + 1 ≤ 100000000) (b2 : bytes ≤ 1000)
    (h : ∀ ao' cap' w', St B w0 w' (Ps.set i (ARow e 1 (.slice ao' (n + 1) cap') (n + 1) (xs ++ [y]))) → wpList P ops Q rest (a.put o.dst (.slice ao' (n + 1) cap')) w') : wpList P ops Q (o :: rest) a w := by
  obtain ⟨i0, hi0, hz0, hz1, hz2⟩ := info_parts' O.info
  obtain ⟨S, hS, _, put⟩ := H.at i hi
  refine wpList_append_row hgd s x t ho e i0 z 1 bytes O.slice hi0 hz0 hz1 hz2 O.cell (by decide) v n xs hs hS (some bo) 1 1 [y] hx (by intro h; cases h) rfl (fun a ha j u hu => ?_) (fun u hu => by simp at hu; subst hu; exact h1) (by unfold maxLen; omega) ?_ ?_
  · cases ha
    match j, hu with
    | 0, hu =>
      simp only [List.getElem?_cons_zero, Option.some.injEq] at hu
      subst hu
      obtain ⟨b, o, sp⟩ := bo
      simp only at hbo
      subst hbo
      exact hc
  · exact Nat.le_trans (Nat.mul_le_mul b1 b2) (by decide)
  · intro v' w' T' hrow hst
    obtain ⟨ao', cap', rfl, _⟩ := hrow.form
    exact h ao' cap' w' (put T' w' (ARow e 1 (.slice ao' (n + 1) cap') (n + 1) (xs ++ [y])) hrow hst)
/-- a row onto a table: it becomes part of it -/
theorem wpList_grid_append {ops : Array Oper} {rest : List Oper} {o : Oper} {a : Act} {Q : Exit → Act → World → Prop} {α : Type} {enc : α → Value} {t2 : TypeId} (O : One P t2 t z bytes) (hgd : o.guard = none) (s x : Operand)
    (ho : o.op = .call { callee := .builtin .append, args := #[s, x], argTypes := #[t2, t2] }) {row : List α} {rows : List (List α)} {ao : Option Addr} {cap : Nat} (H : St B w0 w (AGrid t e enc v rows :: ARow e 1 (.slice ao row.length cap) row.length (row.map enc) :: Ps)) (hs : a.eval s = v)
    (bo : Addr) (hx : a.eval x = .slice (some bo) 1 1) (hbo : bo.spot = none) (hc : w.cell? bo = some (.slice ao row.length cap)) (b1 : rows.length + 1 ≤ 100000000) (b2 : bytes ≤ 1000)
    (h : ∀ ao' cap' w', St B w0 w' (AGrid t e enc (.slice ao' (rows.length + 1) cap') (rows ++ [row]) :: Ps) → wpList P ops Q rest (a.put o.dst (.slice ao' (rows.length + 1) cap')) w') : wpList P ops Q (o :: rest) a w := by
  obtain ⟨rs, hl, hg⟩ := H.gridOpen
  refine wpList_one_append O hgd s x ho hg 0 (n := rows.length) (xs := List.zipWith (fun r row => gsl r row.length) rs rows) rfl hs bo _ hx hbo hc rfl b1 b2 ?_
  intro ao' cap' w' h'
  refine h ao' cap' w' (St.gridClose (rs := rs ++ [(ao, cap)]) (by simp [hl]) ?_)
  have e1 : gParts t e enc (.slice ao' (rows.length + 1) cap') (rs ++ [(ao, cap)]) (rows ++ [row]) ++ Ps
      = (gParts t e enc v rs rows ++ ARow e 1 (.slice ao row.length cap) row.length (row.map enc) :: Ps).set 0 (ARow t 1 (.slice ao' (rows.length + 1) cap') (rows.length + 1) (List.zipWith (fun r row => gsl r row.length) rs rows ++ [.slice ao row.length cap])) := by
    unfold gParts gOuter
    rw [List.zipWith_append hl, List.zipWith_append hl, List.length_append, List.length_singleton, List.cons_append, List.cons_append, List.set_cons_zero, List.append_assoc]
    rfl
  rw [e1]
  exact h'
/-- make([]T, n) -/
theorem St.oneMake (O : One P t e z bytes) (H : St B w0 w Ps) (kl kc : IntKind) (n : Nat) (hn : n ≤ 100000000) (b2 : bytes ≤ 1000) (hz : z.cells = #[z]) :
    ∃ w' g, (Instr.makeSlice t (.int kl (n : Int)) (.int kc (n : Int))).run P w = .ok (.slice (some ⟨g, 0, none⟩) n n) w' ∧ St B w0 w' (ARow e 1 (.slice (some ⟨g, 0, none⟩) n n) n (List.replicate n z) :: Ps) := by
  obtain ⟨i0, hi, hz0, hz1, hz2⟩ := info_parts' O.info
  obtain ⟨w', hr, hown, hg⟩ := run_make_full (P := P) w 0 t e i0 z 1 O.slice hi hz0 hz1 kl kc n (by rw [hz2]; exact Nat.le_trans (Nat.mul_le_mul b2 hn) (by decide)) (by unfold maxLen; omega) (Nat.zero_le _)
  have em : (madeCells z.cells (n * 1)).toList = List.replicate n z := by
    rw [hz]
    unfold madeCells
    apply List.ext_getElem?
    intro i
    by_cases hi : i < n
    · simp [hi, Nat.mod_one]
    · simp [hi]
  rw [em] at hown
  refine ⟨w', w.heap.size, hr, H.new (S' := fun k => k = w.heap.size) (ARow e 1 _ n _) ⟨hown, fun k => by simp [Value.ownBlock, eq_comm]⟩ ?_⟩
  exact ((Step.refl (fun _ => False) w).grown hg (by intro k hk; cases hk)).to (fun k hk => .inr (Nat.le_of_eq hk.symm))
/-- no rows -/
theorem St.gridNil {α : Type} {enc : α → Value} (H : St B w0 w Ps) : St B w0 w (AGrid t e enc (.slice none 0 0) [] :: Ps) :=
  St.gridClose (rs := []) rfl H.rowFresh
end
end Go.Own
