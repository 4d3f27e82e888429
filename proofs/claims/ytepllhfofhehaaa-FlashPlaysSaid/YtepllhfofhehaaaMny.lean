/- Rows of one's own whose elements have many cells: append of several; an empty row; a table's row to the front, others beside it. -/
import Derived.Test.YtepllhfofhehaaaFlbG
namespace Go.Own
open Go.RowKit Go.FlaM
theorem eqlNilIn {P : Program} (w : World) (d : Nat) (t e : TypeId) (a : Option Addr) (l c : Nat) (h : P.underlying t = some (.slice e)) : (Op.equalIn (d + 1) t (.slice a l c) (.slice none 0 0)).run P w = .ok a.isNone w := by
  cases a <;> simp [Op.equalIn, run_underlying h]
/-- a slice against nil -/
theorem eqlNil {P : Program} (w : World) (t e : TypeId) (a : Option Addr) (l c : Nat) (h : P.underlying t = some (.slice e)) : (binOp .eql t (.slice a l c) (.slice none 0 0)).run P w = .ok (.bool a.isNone) w := by
  have h2 : (Op.equal t (.slice a l c) (.slice none 0 0)).run P w = .ok a.isNone w := eqlNilIn w 9999 t e a l c h
  simp [binOp, h2]
/-- what the type of an element is like -/
structure Many (P : Program) (t e : TypeId) (size bytes : Nat) : Prop where
  slice : P.underlying t = some (.slice e)
  info : (P.info? e).map (fun i => (i.zero.map (·.cells.size), i.size, i.bytes)) = some (some size, size, bytes)
  pos : 0 < size
section
variable {P : Program} {B : Nat} {w0 w : World} {Ps : List Asn} {t e : TypeId} {size bytes : Nat}
/-- an empty slice literal -/
theorem St.emptyRow (H : St B w0 w Ps) (e : TypeId) (size : Nat) : St B w0 (w.alloc (.cells #[] e)) (ARow e size (.slice (some ⟨w.heap.size, 0, none⟩) 0 0) 0 [] :: Ps) :=
  H.new (S' := fun k => k = w.heap.size) (ARow e size _ 0 []) (Row.made w (#[] : Array Value) e size 0 (Nat.zero_le _) (by simp)) (((Step.refl (fun _ => False) w).alloc (.cells #[] e)).to (fun k hk => .inr (Nat.le_of_eq hk.symm)))
/-- append of several onto a row of one's own -/
theorem run_many_append (O : Many P t e size bytes) (H : St B w0 w Ps) (i : Nat) {v : Value} {n : Nat} {xs : List Value} (hi : Ps[i]? = some (ARow e size v n xs)) (ty : TypeId)
    (ao : Option Addr) (m c : Nat) (news : List Value) (hno : ao = none → m = 0 ∧ c = 0) (hl : news.length = m * size) (hc : ∀ a, ao = some a → ∀ j u, news[j]? = some u → w.cell? (a.add j) = some u) (h1 : ∀ u ∈ news, u.oneCell' = true) (b1 : n + m ≤ 1000000) (b2 : bytes ≤ 10000) :
    ∃ ao' cap' w', (Builtin.append_ #[t, t] ty #[v, .slice ao m c]).run P w = .ok (.slice ao' (n + m) cap') w' ∧ St B w0 w' (Ps.set i (ARow e size (.slice ao' (n + m) cap') (n + m) (xs ++ news))) := by
  obtain ⟨i0, hi0, hz⟩ := Option.map_eq_some_iff.1 O.info
  simp only [Prod.mk.injEq] at hz
  obtain ⟨hz0, hz1, hz2⟩ := hz
  obtain ⟨z, hz3, hz4⟩ := Option.map_eq_some_iff.1 hz0
  obtain ⟨S, hS, _, put⟩ := H.at i hi
  obtain ⟨v', w', T', hr, hrow, hst⟩ := run_append_row (P := P) w t ty e i0 z size bytes O.slice hi0 hz3 hz1 hz2 hz4 O.pos v n xs hS ao m c news hno hl hc h1 (by unfold maxLen; omega) (Nat.le_trans (Nat.mul_le_mul b1 b2) (by decide))
  obtain ⟨ao', cap', rfl, _⟩ := hrow.form
  exact ⟨ao', cap', w', hr, put T' w' (ARow e size (.slice ao' (n + m) cap') (n + m) (xs ++ news)) hrow hst⟩
theorem wpList_many_append {ops : Array Oper} {rest : List Oper} {o : Oper} {a : Act} {Q : Exit → Act → World → Prop} (O : Many P t e size bytes) (hgd : o.guard = none) (s x : Operand)
    (ho : o.op = .call { callee := .builtin .append, args := #[s, x], argTypes := #[t, t] }) (H : St B w0 w Ps) (i : Nat) {v : Value} {n : Nat} {xs : List Value} (hi : Ps[i]? = some (ARow e size v n xs)) (hs : a.eval s = v)
    (ao : Option Addr) (m c : Nat) (news : List Value) (hx : a.eval x = .slice ao m c) (hno : ao = none → m = 0 ∧ c = 0) (hl : news.length = m * size) (hc : ∀ a, ao = some a → ∀ j u, news[j]? = some u → w.cell? (a.add j) = some u) (h1 : ∀ u ∈ news, u.oneCell' = true) (b1 : n + m ≤ 1000000) (b2 : bytes ≤ 10000)
    (h : ∀ ao' cap' w', St B w0 w' (Ps.set i (ARow e size (.slice ao' (n + m) cap') (n + m) (xs ++ news))) → wpList P ops Q rest (a.put o.dst (.slice ao' (n + m) cap')) w') : wpList P ops Q (o :: rest) a w := by
  refine wpList_plain hgd fun K hK => ?_
  obtain ⟨ao', cap', w', hrun, h1⟩ := run_many_append O H i hi o.type ao m c news hno hl hc h1 b1 b2
  unfold Oper.wp
  simp [execOp, ho, resolve, invoke, builtin, hs, hx, hrun, Result.andThen]
  exact hK _ _ (h ao' cap' w' h1)
/-- the cells of a row that another one stands beside -/
theorem St.rowNews {n cap : Nat} {ao : Option Addr} {xs : List Value} (H : St B w0 w Ps) (i : Nat) (hi : Ps[i]? = some (ARow e size (.slice ao n cap) n xs)) : ∀ a, ao = some a → ∀ j u, xs[j]? = some u → w.cell? (a.add j) = some u := by
  intro a ha j u hu
  subst ha
  have hl := (H.rowLen i hi).1
  have hj := (List.getElem?_eq_some_iff.1 hu).1
  obtain ⟨g, hg, ⟨x, hx, hc⟩, _, _⟩ := H.rowAt i hi j (by omega)
  cases hg
  rw [add_of, Nat.zero_add, hc, ← hx, hu]
theorem St.perm_app {Xs Ys Zs : List Asn} (h : St B w0 w (Xs ++ (Ys ++ Zs))) : St B w0 w (Ys ++ (Zs ++ Xs)) := h.perm (by
  have : (Xs ++ (Ys ++ Zs)).Perm ((Ys ++ Zs) ++ Xs) := List.perm_append_comm
  rwa [List.append_assoc] at this)
variable {v : Value} {rows : List (List Bs)}
/-- a row of a table to the front, and back, others beside it -/
theorem St.pRowAtX (H : St B w0 w (PGrid t e v rows :: Ps)) (i : Nat) (row : List Bs) (hi : rows[i]? = some row) :
    ∃ (g c : Nat) (r : Option Addr × Nat) (Qs : List Asn), v = .slice (some ⟨g, 0, none⟩) rows.length c ∧ w.cell? ⟨g, i, none⟩ = some (gsl r row.length) ∧ St B w0 w (pRow e r row :: Qs) ∧
      ∀ (w' : World) (row' : List Bs) (Xs : List Asn), row'.length = row.length → St B w0 w' (Xs ++ pRow e r row' :: Qs) → St B w0 w' (Xs ++ PGrid t e v (rows.set i row') :: Ps) := by
  obtain ⟨rs, hl, h⟩ := H.pOpen
  have hil := (List.getElem?_eq_some_iff.1 hi).1
  have hr : rs[i]? = some rs[i] := List.getElem?_eq_getElem (by omega)
  have h0 : (pParts t e v rs rows ++ Ps)[0]? = some (gOuter t v rs rows) := rfl
  obtain ⟨ao0, c, rfl⟩ := h.rowForm 0 h0
  obtain ⟨g, rfl, ⟨u, hu, hc⟩, _, _⟩ := h.rowAt 0 h0 i (by omega)
  rw [zip_at _ _ _ _ _ _ hr hi] at hu
  cases hu
  have hz := zip_at (pRow e) rs rows i _ _ hr hi
  have hzl := (List.getElem?_eq_some_iff.1 hz).1
  have h1 : (pParts t e (.slice (some ⟨g, 0, none⟩) rows.length c) rs rows ++ Ps)[i + 1]? = some (pRow e rs[i] row) := by
    unfold pParts
    rw [List.cons_append, List.getElem?_cons_succ, List.getElem?_append_left hzl]
    exact hz
  refine ⟨g, c, rs[i], _, rfl, hc, h.front (i + 1) h1, fun w' row' Xs hlen h' => ?_⟩
  have hlt := (List.getElem?_eq_some_iff.1 h1).1
  have e1 : (pParts t e (.slice (some ⟨g, 0, none⟩) rows.length c) rs rows ++ Ps).set (i + 1) (pRow e rs[i] row') = pParts t e (.slice (some ⟨g, 0, none⟩) rows.length c) rs (rows.set i row') ++ Ps := by
    unfold pParts
    rw [List.cons_append, List.set_cons_succ, List.set_append_left _ _ hzl, zip_set _ _ _ _ _ _ hr, List.cons_append]
    congr 1
    unfold gOuter
    rw [List.length_set, zip_same (fun r row => gsl r row.length) (fun r row => gsl r row.length) rs rows i row row' hi (fun r => by rw [hlen])]
  have p1 := erase_perm ((pParts t e (.slice (some ⟨g, 0, none⟩) rows.length c) rs rows ++ Ps).set (i + 1) (pRow e rs[i] row')) (i + 1) (by simpa using hlt)
  rw [List.getElem_set_self, List.eraseIdx_set_eq, e1] at p1
  have h2 := (h'.perm (p1.append_left Xs)).perm_app
  have h3 := St.pClose (rs := rs) (by rw [List.length_set]; exact hl) h2
  exact h3.perm (by
    have : (PGrid t e (.slice (some ⟨g, 0, none⟩) rows.length c) (rows.set i row') :: (Ps ++ Xs)).Perm (Xs ++ (PGrid t e (.slice (some ⟨g, 0, none⟩) rows.length c) (rows.set i row') :: Ps)) := by
      rw [← List.cons_append]; exact List.perm_append_comm
    exact this)
end
end Go.Own
