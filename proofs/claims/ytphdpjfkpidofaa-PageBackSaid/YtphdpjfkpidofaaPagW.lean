/- Layer 9: lists of slices: append of several onto one of one's own; cuts of a list that is only read. -/
import Derived.Test.YtphdpjfkpidofaaPagS
namespace Go.Own
open Go.RowKit
structure Mbs (P : Program) (t e : TypeId) (size bytes : Nat) : Prop where
  slice : P.underlying t = some (.slice e)
  info : (P.info? e).map (fun i => (i.zero.map (·.cells.size), i.size, i.bytes)) = some (some size, size, bytes)
  pos : 0 < size
section
variable {P : Program} {B : Nat} {w0 w : World} {Ps : List Asn} {t e : TypeId} {size bytes : Nat}
/-- an empty slice literal -/
theorem St.bareRow (H : St B w0 w Ps) (e : TypeId) (size : Nat) : St B w0 (w.alloc (.cells #[] e)) (ARow e size (.slice (some ⟨w.heap.size, 0, none⟩) 0 0) 0 [] :: Ps) :=
  H.new (S' := fun k => k = w.heap.size) (ARow e size _ 0 []) (Row.made w (#[] : Array Value) e size 0 (Nat.zero_le _) (by simp)) (((Step.refl (fun _ => False) w).alloc (.cells #[] e)).to (fun k hk => .inr (Nat.le_of_eq hk.symm)))
/-- append of several onto a row of one's own -/
theorem run_mbs_append (O : Mbs P t e size bytes) (H : St B w0 w Ps) (i : Nat) {v : Value} {n : Nat} {xs : List Value} (hi : Ps[i]? = some (ARow e size v n xs)) (ty : TypeId)
    (ao : Option Addr) (m c : Nat) (news : List Value) (hno : ao = none → m = 0 ∧ c = 0) (hl : news.length = m * size) (hc : ∀ a, ao = some a → ∀ j u, news[j]? = some u → w.cell? (a.add j) = some u) (h1 : ∀ u ∈ news, u.oneCell' = true) (b1 : n + m ≤ 1000000) (b2 : bytes ≤ 10000) :
    ∃ ao' cap' w', (Builtin.append_ #[t, t] ty #[v, .slice ao m c]).run P w = .ok (.slice ao' (n + m) cap') w' ∧ St B w0 w' (Ps.set i (ARow e size (.slice ao' (n + m) cap') (n + m) (xs ++ news))) := by
  obtain ⟨i0, hi0, hz⟩ := Option.map_eq_some_iff.1 O.info
  simp only [Prod.mk.injEq] at hz
  obtain ⟨hz0, hz1, hz2⟩ := hz
  obtain ⟨z, hz3, hz4⟩ := Option.map_eq_some_iff.1 hz0
  obtain ⟨S, hS, _, put⟩ := H.at i hi
  obtain ⟨v', w', T', hr, hrow, hst⟩ := run_append_row (P := P) w t ty e i0 z size bytes O.slice hi0 hz3 hz1 hz2 hz4 O.pos v n xs hS ao m c news hno hl hc h1 (by unfold maxLen; omega) (Nat.le_trans (Nat.mul_le_mul b1 b2) (by decide))
  obtain ⟨ao', cap', rfl, _⟩ := hrow.form
  exact ⟨ao', cap', w', hr, put T' w' (ARow e size (.slice ao' (n + m) cap') (n + m) (xs ++ news)) hrow hst⟩
theorem wpList_mbs_append {ops : Array Oper} {rest : List Oper} {o : Oper} {a : Act} {Q : Exit → Act → World → Prop} (O : Mbs P t e size bytes) (hgd : o.guard = none) (s x : Operand)
    (ho : o.op = .call { callee := .builtin .append, args := #[s, x], argTypes := #[t, t] }) (H : St B w0 w Ps) (i : Nat) {v : Value} {n : Nat} {xs : List Value} (hi : Ps[i]? = some (ARow e size v n xs)) (hs : a.eval s = v)
    (ao : Option Addr) (m c : Nat) (news : List Value) (hx : a.eval x = .slice ao m c) (hno : ao = none → m = 0 ∧ c = 0) (hl : news.length = m * size) (hc : ∀ a, ao = some a → ∀ j u, news[j]? = some u → w.cell? (a.add j) = some u) (h1 : ∀ u ∈ news, u.oneCell' = true) (b1 : n + m ≤ 1000000) (b2 : bytes ≤ 10000)
    (h : ∀ ao' cap' w', St B w0 w' (Ps.set i (ARow e size (.slice ao' (n + m) cap') (n + m) (xs ++ news))) → wpList P ops Q rest (a.put o.dst (.slice ao' (n + m) cap')) w') : wpList P ops Q (o :: rest) a w := by
  refine wpList_plain hgd fun K hK => ?_
  obtain ⟨ao', cap', w', hrun, h1⟩ := run_mbs_append O H i hi o.type ao m c news hno hl hc h1 b1 b2
  unfold Oper.wp
  simp [execOp, ho, resolve, invoke, builtin, hs, hx, hrun, Result.andThen]
  exact hK _ _ (h ao' cap' w' h1)
end
end Go.Own
namespace Go.Proofs.Ytphdpjfkpidofaa
open Go.RowKit Go.Own
namespace Pag
open Go.PagM Byt
theorem bssMbs : Mbs Try.prog 34 22 1 24 := ⟨Try.underlying34, by kernel_rfl, by decide⟩
theorem pick_list {α : Type} {P : Nat → α → Prop} : ∀ n, (∀ j, j < n → ∃ x, P j x) → ∃ l : List α, l.length = n ∧ ∀ j, j < n → ∃ x, l[j]? = some x ∧ P j x
  | 0, _ => ⟨[], rfl, fun j hj => absurd hj (Nat.not_lt_zero j)⟩
  | n + 1, h => by
    obtain ⟨l, hl, hp⟩ := pick_list n (fun j hj => h j (by omega))
    obtain ⟨x, hx⟩ := h n (by omega)
    refine ⟨l ++ [x], by simp [hl], fun j hj => ?_⟩
    rcases Nat.lt_or_ge j n with h1 | h1
    · obtain ⟨y, hy, hy2⟩ := hp j h1
      exact ⟨y, by rw [List.getElem?_append_left (by omega)]; exact hy, hy2⟩
    · obtain rfl : j = n := by omega
      exact ⟨x, by rw [List.getElem?_append_right (by omega), hl, Nat.sub_self]; rfl, hx⟩
/-- a slice's value, whose bytes are those -/
def SliceOf (w : World) (p : PagM.Bs) (v : Value) : Prop := ∃ aj cj, v = .slice aj p.length cj ∧ Given w aj p.length cj p
theorem SliceOf.later {w w' : World} {p : PagM.Bs} {v : Value} (h : SliceOf w p v) (g : Below w.heap.size w w') : SliceOf w' p v := by
  obtain ⟨aj, cj, e, h⟩ := h
  exact ⟨aj, cj, e, h.later g⟩
/-- the values of a list of slices -/
theorem givenL_vals {w : World} {ao : Option Addr} {n cap : Nat} {L : List PagM.Bs} (h : GivenL w ao n cap L) :
    ∃ vs : List Value, vs.length = n ∧ (∀ j, j < n → ∃ v, vs[j]? = some v ∧ SliceOf w (L.getD j []) v) ∧ (∀ v ∈ vs, v.oneCell' = true) ∧ ∀ w', Below w.heap.size w w' → ∀ a, ao = some a → ∀ j u, vs[j]? = some u → w'.cell? (a.add j) = some u := by
  obtain ⟨vs, hl, hv⟩ := pick_list (P := fun j v => SliceOf w (L.getD j []) v ∧ ∀ w', Below w.heap.size w w' → ∀ a, ao = some a → w'.cell? (a.add j) = some v) n (fun j hj => by
    obtain ⟨b, o, aj, cj, h1, h2, h3, h4⟩ := h.rows j hj
    refine ⟨_, ⟨aj, cj, rfl, h4⟩, fun w' g a ha => ?_⟩
    rw [h1] at ha
    cases ha
    rw [add_of]
    exact cellLater h3 g)
  refine ⟨vs, hl, fun j hj => ?_, fun v hv' => ?_, fun w' g a ha j u hu => ?_⟩
  · obtain ⟨v, h1, h2, _⟩ := hv j hj
    exact ⟨v, h1, h2⟩
  · obtain ⟨j, hj⟩ := List.getElem?_of_mem hv'
    have hjl := (List.getElem?_eq_some_iff.1 hj).1
    obtain ⟨v2, h1, ⟨aj, cj, e, _⟩, _⟩ := hv j (by omega)
    rw [hj] at h1
    cases h1
    rw [e]
    rfl
  · have hjl := (List.getElem?_eq_some_iff.1 hu).1
    obtain ⟨v2, h1, _, h3⟩ := hv j (by omega)
    rw [hu] at h1
    cases h1
    exact h3 w' g a ha
/-- a list of slices of one's own may be given -/
theorem givenL_row {B : Nat} {w0 w : World} {Ps : List Asn} (i : Nat) {ao : Option Addr} {n cap : Nat} {vs : List Value} {L : List PagM.Bs} (H : Own.St B w0 w Ps) (hi : Ps[i]? = some (ARow 22 1 (.slice ao n cap) n vs)) (hL : L.length = n) (hv : ∀ j, j < n → ∃ v, vs[j]? = some v ∧ SliceOf w (L.getD j []) v) : GivenL w ao n cap L := by
  obtain ⟨h0, h1, h2, h3⟩ := H.rowLen i hi
  refine ⟨hL, ⟨h1, h2⟩, fun e => (h3 e).2, fun j hj => ?_⟩
  obtain ⟨g, rfl, ⟨u, hu, hc⟩, _, _⟩ := H.rowAt i hi j (by omega)
  obtain ⟨v, hv1, aj, cj, e, hg⟩ := hv j hj
  rw [hu] at hv1
  cases hv1
  subst e
  exact ⟨g, 0, aj, cj, rfl, World.block_lt_of_cell? w _ hc, by rw [Nat.zero_add]; exact hc, hg⟩
/-- l[1:] -/
theorem cutL1 {ao : Option Addr} {m cap : Nat} (hk : 1 ≤ m) (hm : m ≤ cap) (hc : cap ≤ maxLen) (hno : ao = none → cap = 0) :
    ∃ a' c', (∀ (o : Oper) (x : Tmp), o.op = .slice 34 (.tmp x) (some (.const (.int .i64 1))) none none → ∀ (ρ : Operand → Value) w, ρ (.tmp x) = .slice ao m cap → ρ (.const (.int .i64 1)) = .int .i64 1 → (execOp ρ o).run Try.prog w = .ok (.value (.slice a' (m - 1) c')) w) ∧
      ∀ w L, GivenL w ao m cap L → GivenL w a' (m - 1) c' (L.drop 1) := by
  have hc0 := hc
  unfold maxLen at hc
  cases ao with
  | none =>
    have := hno rfl
    omega
  | some a =>
    by_cases hck : cap = 1
    · have hm1 : m = 1 := by omega
      refine ⟨some a, 0, fun o x ho ρ w h0 h1 => ?_, fun w L h => ⟨by rw [List.length_drop, h.size], ⟨by omega, Nat.zero_le _⟩, fun h => by (cases h), fun j hj => by omega⟩⟩
      subst hm1 hck
      simp [execOp, ho, h0, h1, go_sem]
    · refine ⟨some (a.add 1), cap - 1, fun o x ho ρ w h0 h1 => ?_, fun w L h => ⟨by rw [List.length_drop, h.size], ⟨by omega, by omega⟩, fun h => by (cases h), fun j hj => ?_⟩⟩
      · have hk' : (1 : Int) ≤ (m : Int) := by omega
        have e1 : ((m : Int) - 1).toNat = m - 1 := by omega
        simp [execOp, ho, h0, h1, go_sem]
        rw [if_pos (by omega), if_neg hck]
      · obtain ⟨b, o, aj, cj, h1, h2, h3, h4⟩ := h.rows (j + 1) (by omega)
        cases h1
        have e : (L.drop 1).getD j [] = L.getD (j + 1) [] := by rw [List.getD_eq_getElem?_getD, List.getElem?_drop, Nat.add_comm 1 j, ← List.getD_eq_getElem?_getD]
        rw [e]
        exact ⟨b, o + 1, aj, cj, by rw [add_of], h2, by rw [Nat.add_assoc, Nat.add_comm 1 j]; exact h3, h4⟩
/-- l[:k] -/
theorem cutLK {ao : Option Addr} {m cap : Nat} (k : Nat) (hk : k ≤ m) (hm : m ≤ cap) (hc : cap ≤ maxLen) (hno : ao = none → cap = 0) :
    ∀ (o : Oper) (x y : Operand), o.op = .slice 34 x none (some y) none → ∀ (ρ : Operand → Value) w, ρ x = .slice ao m cap → ρ y = .int .i64 (k : Int) → (execOp ρ o).run Try.prog w = .ok (.value (.slice ao k cap)) w := by
  intro o x y ho ρ w h0 h1
  unfold maxLen at hc
  cases ao with
  | none =>
    obtain rfl := hno rfl
    obtain rfl : m = 0 := by omega
    obtain rfl : k = 0 := by omega
    simp [execOp, ho, h0, h1, go_sem]
  | some a =>
    simp [execOp, ho, h0, h1, go_sem]
    omega
end Pag
end Go.Proofs.Ytphdpjfkpidofaa
