/- Rows of one's own whose elements have many cells: cells of them, append of several, make; new variables and struct literals of many cells. -/
import Derived.Test.YtefbcoakjdjkgaaGri
import Derived.Test.YtefbcoakjdjkgaaCpy
import Derived.Test.YtefbcoakjdjkgaaArrEq
import Derived.Laws.Rows
import Derived.Deep.MidRow
namespace Go.Own
open Go.RowKit
section
variable {B : Nat} {w0 : World} {e : TypeId} {size n cap : Nat}
/-- several cells of a row of one's own, from o on, are written -/
theorem St.rowCells (i : Nat) {g : Nat} : ∀ (r : List Value) (o : Nat) (w : World) (Ps : List Asn) (xs : List Value), St B w0 w Ps → Ps[i]? = some (ARow e size (.slice (some ⟨g, 0, none⟩) n cap) n xs) → o + r.length ≤ n * size →
    St B w0 (w.setCells g o r) (Ps.set i (ARow e size (.slice (some ⟨g, 0, none⟩) n cap) n (xs.take o ++ r ++ xs.drop (o + r.length))))
  | [], o, w, Ps, l, h, hi, hl => by
    have ee : l.take o ++ [] ++ l.drop (o + ([] : List Value).length) = l := by simp
    rw [ee]
    have hs : Ps.set i (ARow e size (.slice (some ⟨g, 0, none⟩) n cap) n l) = Ps := by
      apply List.ext_getElem?
      intro j
      by_cases hj : j = i
      · subst hj
        rw [List.getElem?_set_self (List.getElem?_eq_some_iff.1 hi).1, hi]
      · rw [List.getElem?_set_ne (Ne.symm hj)]
    rw [hs]
    exact h
  | c :: r, o, w, Ps, l, h, hi, hl => by
    have hlen := (h.rowLen i hi).1
    have hon : o < n * size := by simp at hl; omega
    obtain ⟨g', hg', _, _, put⟩ := h.rowAt i hi o hon
    cases hg'
    have hlt : i < Ps.length := (List.getElem?_eq_some_iff.1 hi).1
    have h2 := St.rowCells i r (o + 1) _ _ (l.set o c) (put c) (by rw [List.getElem?_set_self hlt]) (by simp at hl ⊢; omega)
    rw [List.set_set] at h2
    have ee : (l.set o c).take (o + 1) ++ r ++ (l.set o c).drop (o + 1 + r.length) = l.take o ++ (c :: r) ++ l.drop (o + (c :: r).length) := by
      have ho : o < l.length := by omega
      have e0 : (l.set o c).take o = l.take o := by
        apply List.ext_getElem?
        intro j
        by_cases hj : j < o
        · rw [List.getElem?_take_of_lt hj, List.getElem?_take_of_lt hj, List.getElem?_set_ne (by omega)]
        · rw [List.getElem?_eq_none (by simp; omega), List.getElem?_eq_none (by simp; omega)]
      have e1 : (l.set o c).drop (o + 1 + r.length) = l.drop (o + (c :: r).length) := by
        apply List.ext_getElem?
        intro j
        rw [List.getElem?_drop, List.getElem?_drop, List.getElem?_set_ne (by omega)]
        congr 1
        simp
        omega
      rw [List.take_succ_eq_append_getElem (by simpa using ho), e0, e1]
      simp
    rw [ee] at h2
    exact h2
/-- the cells of a row, from o on -/
theorem St.rowRange {w : World} {Ps : List Asn} (H : St B w0 w Ps) (i : Nat) {g : Nat} {xs : List Value} (hi : Ps[i]? = some (ARow e size (.slice (some ⟨g, 0, none⟩) n cap) n xs)) (j : Nat) (hj : j < n * size) : w.cell? ⟨g, j, none⟩ = xs[j]? ∧ w.frozen? ⟨g, j, none⟩ = false := by
  obtain ⟨g', hg', ⟨u, hu, hc⟩, hf, _⟩ := H.rowAt i hi j hj
  cases hg'
  exact ⟨by rw [hc, hu], hf⟩
end

theorem flat_at {α : Type} (f : α → List Value) (c : Nat) : ∀ (L : List α), (∀ a ∈ L, (f a).length = c) → ∀ (k : Nat) (a : α), L[k]? = some a → ∀ j, j < c → (L.flatMap f)[k * c + j]? = (f a)[j]?
  | [], _, k, a, h, _, _ => by simp at h
  | x :: L, hl, 0, a, h, j, hj => by
    have h2 : x = a := by simpa using h
    subst h2
    have hx := hl x (List.mem_cons_self ..)
    rw [Nat.zero_mul, Nat.zero_add, List.flatMap_cons, List.getElem?_append_left (by omega)]
  | x :: L, hl, k + 1, a, h, j, hj => by
    have hx := hl x (List.mem_cons_self ..)
    rw [List.flatMap_cons, List.getElem?_append_right (by rw [hx, Nat.add_mul]; omega), hx, show (k + 1) * c + j - c = k * c + j by rw [Nat.add_mul]; omega]
    exact flat_at f c L (fun y hy => hl y (List.mem_cons_of_mem _ hy)) k a (by simpa using h) j hj
theorem flat_length {α : Type} (f : α → List Value) (c : Nat) : ∀ (L : List α), (∀ a ∈ L, (f a).length = c) → (L.flatMap f).length = L.length * c
  | [], _ => by simp
  | x :: L, hl => by
    rw [List.flatMap_cons, List.length_append, hl x (List.mem_cons_self ..), flat_length f c L (fun y hy => hl y (List.mem_cons_of_mem _ hy)), List.length_cons, Nat.add_mul, Nat.one_mul, Nat.add_comm]
theorem eqlNilIn {P : Program} (w : World) (d : Nat) (t e : TypeId) (a : Option Addr) (l c : Nat) (h : P.underlying t = some (.slice e)) : (Op.equalIn (d + 1) t (.slice a l c) (.slice none 0 0)).run P w = .ok a.isNone w := by
  cases a <;> simp [Op.equalIn, run_underlying h]
/-- a slice against nil -/
theorem eqlNil {P : Program} (w : World) (t e : TypeId) (a : Option Addr) (l c : Nat) (h : P.underlying t = some (.slice e)) : (binOp .eql t (.slice a l c) (.slice none 0 0)).run P w = .ok (.bool a.isNone) w := by
  have h2 : (Op.equal t (.slice a l c) (.slice none 0 0)).run P w = .ok a.isNone w := eqlNilIn w 9999 t e a l c h
  simp [binOp, h2]
/-- what the type of an element is like -/
structure Many (P : Program) (t e : TypeId) (size bytes : Nat) : Prop where
  slice : P.underlying t = some (.slice e)
  info : (P.info? e).map (fun i => (i.zero.map (·.cells.size), i.size, i.bytes)) = some (some size, size, bytes)
  pos : 0 < size
section
variable {P : Program} {B : Nat} {w0 w : World} {Ps : List Asn} {t e : TypeId} {size bytes : Nat}
/-- an empty slice literal -/
theorem St.emptyRow (H : St B w0 w Ps) (e : TypeId) (size : Nat) : St B w0 (w.alloc (.cells #[] e)) (ARow e size (.slice (some ⟨w.heap.size, 0, none⟩) 0 0) 0 [] :: Ps) :=
  H.new (S' := fun k => k = w.heap.size) (ARow e size _ 0 []) (Row.made w (#[] : Array Value) e size 0 (Nat.zero_le _) (by simp)) (((Step.refl (fun _ => False) w).alloc (.cells #[] e)).to (fun k hk => .inr (Nat.le_of_eq hk.symm)))
/-- append of several onto a row of one's own -/
theorem run_many_append (O : Many P t e size bytes) (H : St B w0 w Ps) (i : Nat) {v : Value} {n : Nat} {xs : List Value} (hi : Ps[i]? = some (ARow e size v n xs)) (ty : TypeId)
    (ao : Option Addr) (m c : Nat) (news : List Value) (hno : ao = none → m = 0 ∧ c = 0) (hl : news.length = m * size) (hc : ∀ a, ao = some a → ∀ j u, news[j]? = some u → w.cell? (a.add j) = some u) (h1 : ∀ u ∈ news, u.oneCell' = true) (b1 : n + m ≤ 1000000) (b2 : bytes ≤ 10000) :
    ∃ ao' cap' w', (Builtin.append_ #[t, t] ty #[v, .slice ao m c]).run P w = .ok (.slice ao' (n + m) cap') w' ∧ St B w0 w' (Ps.set i (ARow e size (.slice ao' (n + m) cap') (n + m) (xs ++ news))) := by
  obtain ⟨i0, hi0, hz⟩ := Option.map_eq_some_iff.1 O.info
  simp only [Prod.mk.injEq] at hz
  obtain ⟨hz0, hz1, hz2⟩ := hz
  obtain ⟨z, hz3, hz4⟩ := Option.map_eq_some_iff.1 hz0
  obtain ⟨S, hS, _, put⟩ := H.at i hi
  obtain ⟨v', w', T', hr, hrow, hst⟩ := run_append_row (P := P) w t ty e i0 z size bytes O.slice hi0 hz3 hz1 hz2 hz4 O.pos v n xs hS ao m c news hno hl hc h1 (by unfold maxLen; omega) (Nat.le_trans (Nat.mul_le_mul b1 b2) (by decide))
  obtain ⟨ao', cap', rfl, _⟩ := hrow.form
  exact ⟨ao', cap', w', hr, put T' w' (ARow e size (.slice ao' (n + m) cap') (n + m) (xs ++ news)) hrow hst⟩
theorem wpList_many_append {ops : Array Oper} {rest : List Oper} {o : Oper} {a : Act} {Q : Exit → Act → World → Prop} (O : Many P t e size bytes) (hgd : o.guard = none) (s x : Operand)
    (ho : o.op = .call { callee := .builtin .append, args := #[s, x], argTypes := #[t, t] }) (H : St B w0 w Ps) (i : Nat) {v : Value} {n : Nat} {xs : List Value} (hi : Ps[i]? = some (ARow e size v n xs)) (hs : a.eval s = v)
    (ao : Option Addr) (m c : Nat) (news : List Value) (hx : a.eval x = .slice ao m c) (hno : ao = none → m = 0 ∧ c = 0) (hl : news.length = m * size) (hc : ∀ a, ao = some a → ∀ j u, news[j]? = some u → w.cell? (a.add j) = some u) (h1 : ∀ u ∈ news, u.oneCell' = true) (b1 : n + m ≤ 1000000) (b2 : bytes ≤ 10000)
    (h : ∀ ao' cap' w', St B w0 w' (Ps.set i (ARow e size (.slice ao' (n + m) cap') (n + m) (xs ++ news))) → wpList P ops Q rest (a.put o.dst (.slice ao' (n + m) cap')) w') : wpList P ops Q (o :: rest) a w := by
  refine wpList_plain hgd fun K hK => ?_
  obtain ⟨ao', cap', w', hrun, h1⟩ := run_many_append O H i hi o.type ao m c news hno hl hc h1 b1 b2
  unfold Oper.wp
  simp [execOp, ho, resolve, invoke, builtin, hs, hx, hrun, Result.andThen]
  exact hK _ _ (h ao' cap' w' h1)
/-- the cells of a row that another one stands beside -/
theorem St.rowNews {n cap : Nat} {ao : Option Addr} {xs : List Value} (H : St B w0 w Ps) (i : Nat) (hi : Ps[i]? = some (ARow e size (.slice ao n cap) n xs)) : ∀ a, ao = some a → ∀ j u, xs[j]? = some u → w.cell? (a.add j) = some u := by
  intro a ha j u hu
  subst ha
  have hl := (H.rowLen i hi).1
  have hj := (List.getElem?_eq_some_iff.1 hu).1
  obtain ⟨g, hg, ⟨x, hx, hc⟩, _, _⟩ := H.rowAt i hi j (by omega)
  cases hg
  rw [add_of, Nat.zero_add, hc, ← hx, hu]
theorem St.perm_app {Xs Ys Zs : List Asn} (h : St B w0 w (Xs ++ (Ys ++ Zs))) : St B w0 w (Ys ++ (Zs ++ Xs)) := h.perm (by
  have : (Xs ++ (Ys ++ Zs)).Perm ((Ys ++ Zs) ++ Xs) := List.perm_append_comm
  rwa [List.append_assoc] at this)
end
section
variable {P : Program} {t e : TypeId} {size bytes : Nat} {B : Nat} {w0 w : World} {Ps : List Asn}
/-- make([]T, n), where a T has many cells -/
theorem St.manyMake {zs : List Value} {z : Value} (O : Many P t e size bytes) (hz : (P.info? e).bind (·.zero) = some z) (hzs : z.cells = zs.toArray) (H : St B w0 w Ps) (kl kc : IntKind) (n : Nat) (hn : n ≤ 100000) (b2 : bytes ≤ 10000) :
    ∃ w' g, (Instr.makeSlice t (.int kl (n : Int)) (.int kc (n : Int))).run P w = .ok (.slice (some ⟨g, 0, none⟩) n n) w' ∧ St B w0 w' (ARow e size (.slice (some ⟨g, 0, none⟩) n n) n ((List.replicate n zs).flatten) :: Ps) := by
  obtain ⟨i0, hi0, hq⟩ := Option.map_eq_some_iff.1 O.info
  simp only [Prod.mk.injEq] at hq
  obtain ⟨hz0, hz1, hz2⟩ := hq
  obtain ⟨z', hz3, hz4⟩ := Option.map_eq_some_iff.1 hz0
  have hzz : z' = z := by rw [hi0] at hz; simp only [Option.bind_some] at hz; rw [hz3] at hz; exact Option.some.inj hz
  subst hzz
  obtain ⟨w', hr, hown, hg⟩ := run_make_full (P := P) w 0 t e i0 z' size O.slice hi0 hz3 hz1 kl kc n (by rw [hz2]; exact Nat.le_trans (Nat.mul_le_mul b2 hn) (by decide)) (by unfold maxLen; omega) (Nat.zero_le _)
  have hzl : zs.length = size := by rw [hzs] at hz4; simpa using hz4
  have em : (madeCells z'.cells (n * size)).toList = (List.replicate n zs).flatten := by
    rw [hzs]
    unfold madeCells
    have hfl : (List.replicate n zs).flatten = (List.replicate n ()).flatMap (fun _ => zs) := by rw [List.flatMap_def, List.map_replicate]
    rw [hfl]
    apply List.ext_getElem?
    intro i
    by_cases hi : i < n * size
    · have hpos := O.pos
      have hk : i / size < n := (Nat.div_lt_iff_lt_mul hpos).2 hi
      have hm := Nat.mod_lt i hpos
      have h1 := flat_at (fun _ : Unit => zs) size (List.replicate n ()) (fun _ _ => hzl) (i / size) () (by simp [hk]) (i % size) hm
      rw [Nat.mul_comm, Nat.div_add_mod] at h1
      rw [h1]
      simp [hi, hzl, hm]
    · have h1 := flat_length (fun _ : Unit => zs) size (List.replicate n ()) (fun _ _ => hzl)
      rw [List.length_replicate] at h1
      rw [List.getElem?_eq_none (by simp; omega), List.getElem?_eq_none (by omega)]
  rw [em] at hown
  refine ⟨w', w.heap.size, hr, H.new (S' := fun k => k = w.heap.size) (ARow e size _ n _) ⟨hown, fun k => by simp [Value.ownBlock, eq_comm]⟩ ?_⟩
  exact ((Step.refl (fun _ => False) w).grown hg (by intro k hk; cases hk)).to (fun k hk => .inr (Nat.le_of_eq hk.symm))
end
/-- a new variable of many cells -/
theorem wpList_allocZ {P : Program} {ops : Array Oper} {rest : List Oper} {o : Oper} {a : Act} {w : World} {Q : Exit → Act → World → Prop} (hgd : o.guard = none) (ty : TypeId) (ho : o.op = .alloc ty) (z : Array Value) (hz : (P.info? ty).bind (·.zero) = some (.agg z))
    (h : wpList P ops Q rest (a.put o.dst (.pointer (some ⟨w.heap.size, 0, none⟩))) (w.alloc (.cells z ty))) : wpList P ops Q (o :: rest) a w := by
  refine wpList_plain hgd fun K hK => ?_
  obtain ⟨i, hi, hi2⟩ := Option.bind_eq_some_iff.1 hz
  unfold Oper.wp
  simp [execOp, ho, Instr.alloc, zeroValue, typeInfo, hi, hi2, Result.andThen]
  exact hK _ _ h
/-- a struct literal, its cells known -/
theorem wpList_built {P : Program} {ops : Array Oper} {rest : List Oper} {o : Oper} {a : Go.Act} {w : World} {Q : Exit → Go.Act → World → Prop} (hgd : o.guard = none) (t : TypeId) (parts : Array (Nat × Operand)) (ho : o.op = .build t parts) (cells : Array Value)
    (hf : P.built t (parts.map fun (i, x) => (i, a.eval x)).toList = some cells) (h : wpList P ops Q rest (a.put o.dst (.agg cells)) w) : wpList P ops Q (o :: rest) a w := by
  refine wpList_plain hgd fun K hK => ?_
  have := run_build w t (parts.map fun (i, x) => (i, a.eval x)) cells hf
  unfold Oper.wp
  simp [execOp, ho, this, Result.andThen]
  exact hK _ _ h
end Go.Own
