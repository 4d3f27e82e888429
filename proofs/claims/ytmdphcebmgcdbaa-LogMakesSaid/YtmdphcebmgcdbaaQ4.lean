/- Merged: Roc TabR TabRb Res TabRc Cod CodA CodB CodC CodD CodE CodS CodP TabRd TabRe Acts TabQ RecP StrS -/
import Derived.Laws.Rows
import Derived.Deep.MidRow
import Derived.BigQuiet
import Derived.BigRegion
import Derived.Deep.QuietTactic
import Derived.Lib.Hide
import Derived.OwnWalk
import Derived.Test.YtmdphcebmgcdbaaRows
import Derived.WalkKit
import Derived.Deep.RegionLaw
import Derived.Deep.DeepMust
import Derived.WalkSpells
import Derived.WalkLawsBesides
import Derived.Laws.StructEq
import Derived.Test.YtmdphcebmgcdbaaQ1
import Derived.Test.YtmdphcebmgcdbaaQ2
import Derived.Test.YtmdphcebmgcdbaaQ3
set_option linter.unusedVariables false
section
namespace Go.Own
open Go.RowKit
section
variable {B : Nat} {w0 : World} {e : TypeId} {size n cap : Nat}
/-- several cells of a row of one's own, from o on, are written -/
theorem St.rowCells (i : Nat) {g : Nat} : ∀ (r : List Value) (o : Nat) (w : World) (Ps : List Asn) (xs : List Value), St B w0 w Ps → Ps[i]? = some (ARow e size (.slice (some ⟨g, 0, none⟩) n cap) n xs) → o + r.length ≤ n * size →
    St B w0 (w.setCells g o r) (Ps.set i (ARow e size (.slice (some ⟨g, 0, none⟩) n cap) n (xs.take o ++ r ++ xs.drop (o + r.length))))
  | [], o, w, Ps, l, h, hi, hl => by
    have ee : l.take o ++ [] ++ l.drop (o + ([] : List Value).length) = l := by simp
    rw [ee]
    have hs : Ps.set i (ARow e size (.slice (some ⟨g, 0, none⟩) n cap) n l) = Ps := by
      apply List.ext_getElem?
      intro j
      by_cases hj : j = i
      · subst hj
        rw [List.getElem?_set_self (List.getElem?_eq_some_iff.1 hi).1, hi]
      · rw [List.getElem?_set_ne (Ne.symm hj)]
    rw [hs]
    exact h
  | c :: r, o, w, Ps, l, h, hi, hl => by
    have hlen := (h.rowLen i hi).1
    have hon : o < n * size := by simp at hl; omega
    obtain ⟨g', hg', _, _, put⟩ := h.rowAt i hi o hon
    cases hg'
    have hlt : i < Ps.length := (List.getElem?_eq_some_iff.1 hi).1
    have h2 := St.rowCells i r (o + 1) _ _ (l.set o c) (put c) (by rw [List.getElem?_set_self hlt]) (by simp at hl ⊢; omega)
    rw [List.set_set] at h2
    have ee : (l.set o c).take (o + 1) ++ r ++ (l.set o c).drop (o + 1 + r.length) = l.take o ++ (c :: r) ++ l.drop (o + (c :: r).length) := by
      have ho : o < l.length := by omega
      have e0 : (l.set o c).take o = l.take o := by
        apply List.ext_getElem?
        intro j
        by_cases hj : j < o
        · rw [List.getElem?_take_of_lt hj, List.getElem?_take_of_lt hj, List.getElem?_set_ne (by omega)]
        · rw [List.getElem?_eq_none (by simp; omega), List.getElem?_eq_none (by simp; omega)]
      have e1 : (l.set o c).drop (o + 1 + r.length) = l.drop (o + (c :: r).length) := by
        apply List.ext_getElem?
        intro j
        rw [List.getElem?_drop, List.getElem?_drop, List.getElem?_set_ne (by omega)]
        congr 1
        simp
        omega
      rw [List.take_succ_eq_append_getElem (by simpa using ho), e0, e1]
      simp
    rw [ee] at h2
    exact h2
/-- the cells of a row, from o on -/
theorem St.rowRange {w : World} {Ps : List Asn} (H : St B w0 w Ps) (i : Nat) {g : Nat} {xs : List Value} (hi : Ps[i]? = some (ARow e size (.slice (some ⟨g, 0, none⟩) n cap) n xs)) (j : Nat) (hj : j < n * size) : w.cell? ⟨g, j, none⟩ = xs[j]? ∧ w.frozen? ⟨g, j, none⟩ = false := by
  obtain ⟨g', hg', ⟨u, hu, hc⟩, hf, _⟩ := H.rowAt i hi j hj
  cases hg'
  exact ⟨by rw [hc, hu], hf⟩
end

theorem flat_at {α : Type} (f : α → List Value) (c : Nat) : ∀ (L : List α), (∀ a ∈ L, (f a).length = c) → ∀ (k : Nat) (a : α), L[k]? = some a → ∀ j, j < c → (L.flatMap f)[k * c + j]? = (f a)[j]?
  | [], _, k, a, h, _, _ => by simp at h
  | x :: L, hl, 0, a, h, j, hj => by
    have h2 : x = a := by simpa using h
    subst h2
    have hx := hl x (List.mem_cons_self ..)
    rw [Nat.zero_mul, Nat.zero_add, List.flatMap_cons, List.getElem?_append_left (by omega)]
  | x :: L, hl, k + 1, a, h, j, hj => by
    have hx := hl x (List.mem_cons_self ..)
    rw [List.flatMap_cons, List.getElem?_append_right (by rw [hx, Nat.add_mul]; omega), hx, show (k + 1) * c + j - c = k * c + j by rw [Nat.add_mul]; omega]
    exact flat_at f c L (fun y hy => hl y (List.mem_cons_of_mem _ hy)) k a (by simpa using h) j hj
theorem flat_length {α : Type} (f : α → List Value) (c : Nat) : ∀ (L : List α), (∀ a ∈ L, (f a).length = c) → (L.flatMap f).length = L.length * c
  | [], _ => by simp
  | x :: L, hl => by
    rw [List.flatMap_cons, List.length_append, hl x (List.mem_cons_self ..), flat_length f c L (fun y hy => hl y (List.mem_cons_of_mem _ hy)), List.length_cons, Nat.add_mul, Nat.one_mul, Nat.add_comm]
theorem eqlNilIn {P : Program} (w : World) (d : Nat) (t e : TypeId) (a : Option Addr) (l c : Nat) (h : P.underlying t = some (.slice e)) : (Op.equalIn (d + 1) t (.slice a l c) (.slice none 0 0)).run P w = .ok a.isNone w := by
  cases a <;> simp [Op.equalIn, run_underlying h]
/-- a slice against nil -/
theorem eqlNil {P : Program} (w : World) (t e : TypeId) (a : Option Addr) (l c : Nat) (h : P.underlying t = some (.slice e)) : (binOp .eql t (.slice a l c) (.slice none 0 0)).run P w = .ok (.bool a.isNone) w := by
  have h2 : (Op.equal t (.slice a l c) (.slice none 0 0)).run P w = .ok a.isNone w := eqlNilIn w 9999 t e a l c h
  simp [binOp, h2]
/-- what the type of an element is like -/
structure Many (P : Program) (t e : TypeId) (size bytes : Nat) : Prop where
  slice : P.underlying t = some (.slice e)
  info : (P.info? e).map (fun i => (i.zero.map (·.cells.size), i.size, i.bytes)) = some (some size, size, bytes)
  pos : 0 < size
section
variable {P : Program} {B : Nat} {w0 w : World} {Ps : List Asn} {t e : TypeId} {size bytes : Nat}
/-- an empty slice literal -/
theorem St.emptyRow (H : St B w0 w Ps) (e : TypeId) (size : Nat) : St B w0 (w.alloc (.cells #[] e)) (ARow e size (.slice (some ⟨w.heap.size, 0, none⟩) 0 0) 0 [] :: Ps) :=
  H.new (S' := fun k => k = w.heap.size) (ARow e size _ 0 []) (Row.made w (#[] : Array Value) e size 0 (Nat.zero_le _) (by simp)) (((Step.refl (fun _ => False) w).alloc (.cells #[] e)).to (fun k hk => .inr (Nat.le_of_eq hk.symm)))
/-- append of several onto a row of one's own -/
theorem run_many_append (O : Many P t e size bytes) (H : St B w0 w Ps) (i : Nat) {v : Value} {n : Nat} {xs : List Value} (hi : Ps[i]? = some (ARow e size v n xs)) (ty : TypeId)
    (ao : Option Addr) (m c : Nat) (news : List Value) (hno : ao = none → m = 0 ∧ c = 0) (hl : news.length = m * size) (hc : ∀ a, ao = some a → ∀ j u, news[j]? = some u → w.cell? (a.add j) = some u) (h1 : ∀ u ∈ news, u.oneCell' = true) (b1 : n + m ≤ 1000000) (b2 : bytes ≤ 10000) :
    ∃ ao' cap' w', (Builtin.append_ #[t, t] ty #[v, .slice ao m c]).run P w = .ok (.slice ao' (n + m) cap') w' ∧ St B w0 w' (Ps.set i (ARow e size (.slice ao' (n + m) cap') (n + m) (xs ++ news))) := by
  obtain ⟨i0, hi0, hz⟩ := Option.map_eq_some_iff.1 O.info
  simp only [Prod.mk.injEq] at hz
  obtain ⟨hz0, hz1, hz2⟩ := hz
  obtain ⟨z, hz3, hz4⟩ := Option.map_eq_some_iff.1 hz0
  obtain ⟨S, hS, _, put⟩ := H.at i hi
  obtain ⟨v', w', T', hr, hrow, hst⟩ := run_append_row (P := P) w t ty e i0 z size bytes O.slice hi0 hz3 hz1 hz2 hz4 O.pos v n xs hS ao m c news hno hl hc h1 (by unfold maxLen; omega) (Nat.le_trans (Nat.mul_le_mul b1 b2) (by decide))
  obtain ⟨ao', cap', rfl, _⟩ := hrow.form
  exact ⟨ao', cap', w', hr, put T' w' (ARow e size (.slice ao' (n + m) cap') (n + m) (xs ++ news)) hrow hst⟩
theorem wpList_many_append {ops : Array Oper} {rest : List Oper} {o : Oper} {a : Act} {Q : Exit → Act → World → Prop} (O : Many P t e size bytes) (hgd : o.guard = none) (s x : Operand)
    (ho : o.op = .call { callee := .builtin .append, args := #[s, x], argTypes := #[t, t] }) (H : St B w0 w Ps) (i : Nat) {v : Value} {n : Nat} {xs : List Value} (hi : Ps[i]? = some (ARow e size v n xs)) (hs : a.eval s = v)
    (ao : Option Addr) (m c : Nat) (news : List Value) (hx : a.eval x = .slice ao m c) (hno : ao = none → m = 0 ∧ c = 0) (hl : news.length = m * size) (hc : ∀ a, ao = some a → ∀ j u, news[j]? = some u → w.cell? (a.add j) = some u) (h1 : ∀ u ∈ news, u.oneCell' = true) (b1 : n + m ≤ 1000000) (b2 : bytes ≤ 10000)
    (h : ∀ ao' cap' w', St B w0 w' (Ps.set i (ARow e size (.slice ao' (n + m) cap') (n + m) (xs ++ news))) → wpList P ops Q rest (a.put o.dst (.slice ao' (n + m) cap')) w') : wpList P ops Q (o :: rest) a w := by
  refine wpList_plain hgd fun K hK => ?_
  obtain ⟨ao', cap', w', hrun, h1⟩ := run_many_append O H i hi o.type ao m c news hno hl hc h1 b1 b2
  unfold Oper.wp
  simp [execOp, ho, resolve, invoke, builtin, hs, hx, hrun, Result.andThen]
  exact hK _ _ (h ao' cap' w' h1)
/-- the cells of a row that another one stands beside -/
theorem St.rowNews {n cap : Nat} {ao : Option Addr} {xs : List Value} (H : St B w0 w Ps) (i : Nat) (hi : Ps[i]? = some (ARow e size (.slice ao n cap) n xs)) : ∀ a, ao = some a → ∀ j u, xs[j]? = some u → w.cell? (a.add j) = some u := by
  intro a ha j u hu
  subst ha
  have hl := (H.rowLen i hi).1
  have hj := (List.getElem?_eq_some_iff.1 hu).1
  obtain ⟨g, hg, ⟨x, hx, hc⟩, _, _⟩ := H.rowAt i hi j (by omega)
  cases hg
  rw [add_of, Nat.zero_add, hc, ← hx, hu]
theorem St.perm_app {Xs Ys Zs : List Asn} (h : St B w0 w (Xs ++ (Ys ++ Zs))) : St B w0 w (Ys ++ (Zs ++ Xs)) := h.perm (by
  have : (Xs ++ (Ys ++ Zs)).Perm ((Ys ++ Zs) ++ Xs) := List.perm_append_comm
  rwa [List.append_assoc] at this)
end
section
variable {P : Program} {t e : TypeId} {size bytes : Nat} {B : Nat} {w0 w : World} {Ps : List Asn}
/-- make([]T, n), where a T has many cells -/
theorem St.manyMake {zs : List Value} {z : Value} (O : Many P t e size bytes) (hz : (P.info? e).bind (·.zero) = some z) (hzs : z.cells = zs.toArray) (H : St B w0 w Ps) (kl kc : IntKind) (n : Nat) (hn : n ≤ 100000) (b2 : bytes ≤ 10000) :
    ∃ w' g, (Instr.makeSlice t (.int kl (n : Int)) (.int kc (n : Int))).run P w = .ok (.slice (some ⟨g, 0, none⟩) n n) w' ∧ St B w0 w' (ARow e size (.slice (some ⟨g, 0, none⟩) n n) n ((List.replicate n zs).flatten) :: Ps) := by
  obtain ⟨i0, hi0, hq⟩ := Option.map_eq_some_iff.1 O.info
  simp only [Prod.mk.injEq] at hq
  obtain ⟨hz0, hz1, hz2⟩ := hq
  obtain ⟨z', hz3, hz4⟩ := Option.map_eq_some_iff.1 hz0
  have hzz : z' = z := by rw [hi0] at hz; simp only [Option.bind_some] at hz; rw [hz3] at hz; exact Option.some.inj hz
  subst hzz
  obtain ⟨w', hr, hown, hg⟩ := run_make_full (P := P) w 0 t e i0 z' size O.slice hi0 hz3 hz1 kl kc n (by rw [hz2]; exact Nat.le_trans (Nat.mul_le_mul b2 hn) (by decide)) (by unfold maxLen; omega) (Nat.zero_le _)
  have hzl : zs.length = size := by rw [hzs] at hz4; simpa using hz4
  have em : (madeCells z'.cells (n * size)).toList = (List.replicate n zs).flatten := by
    rw [hzs]
    unfold madeCells
    have hfl : (List.replicate n zs).flatten = (List.replicate n ()).flatMap (fun _ => zs) := by rw [List.flatMap_def, List.map_replicate]
    rw [hfl]
    apply List.ext_getElem?
    intro i
    by_cases hi : i < n * size
    · have hpos := O.pos
      have hk : i / size < n := (Nat.div_lt_iff_lt_mul hpos).2 hi
      have hm := Nat.mod_lt i hpos
      have h1 := flat_at (fun _ : Unit => zs) size (List.replicate n ()) (fun _ _ => hzl) (i / size) () (by simp [hk]) (i % size) hm
      rw [Nat.mul_comm, Nat.div_add_mod] at h1
      rw [h1]
      simp [hi, hzl, hm]
    · have h1 := flat_length (fun _ : Unit => zs) size (List.replicate n ()) (fun _ _ => hzl)
      rw [List.length_replicate] at h1
      rw [List.getElem?_eq_none (by simp; omega), List.getElem?_eq_none (by omega)]
  rw [em] at hown
  refine ⟨w', w.heap.size, hr, H.new (S' := fun k => k = w.heap.size) (ARow e size _ n _) ⟨hown, fun k => by simp [Value.ownBlock, eq_comm]⟩ ?_⟩
  exact ((Step.refl (fun _ => False) w).grown hg (by intro k hk; cases hk)).to (fun k hk => .inr (Nat.le_of_eq hk.symm))
end
/-- a new variable of many cells -/
theorem wpList_allocZ {P : Program} {ops : Array Oper} {rest : List Oper} {o : Oper} {a : Act} {w : World} {Q : Exit → Act → World → Prop} (hgd : o.guard = none) (ty : TypeId) (ho : o.op = .alloc ty) (z : Array Value) (hz : (P.info? ty).bind (·.zero) = some (.agg z))
    (h : wpList P ops Q rest (a.put o.dst (.pointer (some ⟨w.heap.size, 0, none⟩))) (w.alloc (.cells z ty))) : wpList P ops Q (o :: rest) a w := by
  refine wpList_plain hgd fun K hK => ?_
  obtain ⟨i, hi, hi2⟩ := Option.bind_eq_some_iff.1 hz
  unfold Oper.wp
  simp [execOp, ho, Instr.alloc, zeroValue, typeInfo, hi, hi2, Result.andThen]
  exact hK _ _ h
/-- a struct literal, its cells known -/
theorem wpList_built {P : Program} {ops : Array Oper} {rest : List Oper} {o : Oper} {a : Go.Act} {w : World} {Q : Exit → Go.Act → World → Prop} (hgd : o.guard = none) (t : TypeId) (parts : Array (Nat × Operand)) (ho : o.op = .build t parts) (cells : Array Value)
    (hf : P.built t (parts.map fun (i, x) => (i, a.eval x)).toList = some cells) (h : wpList P ops Q rest (a.put o.dst (.agg cells)) w) : wpList P ops Q (o :: rest) a w := by
  refine wpList_plain hgd fun K hK => ?_
  have := run_build w t (parts.map fun (i, x) => (i, a.eval x)) cells hf
  unfold Oper.wp
  simp [execOp, ho, this, Result.andThen]
  exact hK _ _ h
end Go.Own

end
section
namespace Go.Proofs.Ytmdphcebmgcdbaa
open Go.RowKit Go.Own
namespace Tab
open Go.TabM
abbrev ptr (p : Nat) : Value := .pointer (some ⟨p, 0, none⟩)
abbrev errT (n : Nat) : Value := .int .i64 (n : Int)
abbrev sgC (s : Sg) : List Value := [.int .u8 (s.kind : Int), .int .u64 (s.seq : Int), .int .u32 (s.wear : Int)]
theorem sgC_len (l : List Sg) : ∀ a ∈ l, (sgC a).length = 3 := fun _ _ => rfl
/-- a row of segments -/
abbrev RowG (v : Value) (rows : List Sg) : Asn := ARow 133 3 v rows.length (rows.flatMap sgC)
abbrev tabC (v : Value) (t : T) : List Value := [v, .int .u64 (t.next : Int)]
/-- the document's table at q, its rows at v -/
def ARefT (q : Nat) (v : Value) (t : T) : Asn := AJoin [AVals q 107 (tabC v t), RowG v t.rows]
theorem flat_set (l : List Sg) (j k : Nat) (s : Sg) (u : Value) (hj : j < l.length) (hk : k < 3) (he : (sgC (at_ l j)).set k u = sgC s) : (l.flatMap sgC).set (j * 3 + k) u = (l.set j s).flatMap sgC := by
  induction l generalizing j with
  | nil => simp at hj
  | cons x l ih =>
    cases j with
    | zero =>
      rw [Nat.zero_mul, Nat.zero_add, List.flatMap_cons, List.set_append_left _ _ (by simpa using hk), List.set_cons_zero, List.flatMap_cons]
      congr 1
    | succ j =>
      rw [List.flatMap_cons, List.set_append_right _ _ (by show 3 ≤ _; omega), List.set_cons_succ, List.flatMap_cons]
      congr 1
      rw [← ih j (by simpa using hj) he]
      congr 1
      show (j + 1) * 3 + k - 3 = _
      omega
section
variable {B : Nat} {w0 w : World} {Ps : List Asn} {q : Nat} {v : Value} {t : T}
theorem ref_open (h : Own.St B w0 w (ARefT q v t :: Ps)) : Own.St B w0 w (AVals q 107 (tabC v t) :: RowG v t.rows :: Ps) := h.openJ
theorem ref_close (h : Own.St B w0 w (AVals q 107 (tabC v t) :: RowG v t.rows :: Ps)) : Own.St B w0 w (ARefT q v t :: Ps) := Own.St.closeJ (Qs := [_, _]) h
/-- one segment of a row -/
structure At (w : World) (g j : Nat) (s : Sg) : Prop where
  c0 : w.cell? ⟨g, j * 3, none⟩ = some (.int .u8 (s.kind : Int))
  c1 : w.cell? ⟨g, j * 3 + 1, none⟩ = some (.int .u64 (s.seq : Int))
  c2 : w.cell? ⟨g, j * 3 + 2, none⟩ = some (.int .u32 (s.wear : Int))
theorem rowG_at {rows : List Sg} (H : Own.St B w0 w Ps) (i : Nat) (hi : Ps[i]? = some (RowG v rows)) (j : Nat) (hj : j < rows.length) :
    ∃ g c, v = .slice (some ⟨g, 0, none⟩) rows.length c ∧ At w g j (at_ rows j) := by
  obtain ⟨ao, c, rfl⟩ := H.rowForm i hi
  have f := fun k hk => flat_at sgC 3 rows (sgC_len rows) j (at_ rows j) (at_get hj) k hk
  obtain ⟨g, rfl, ⟨u0, h0, c0⟩, _, _⟩ := H.rowAt i hi (j * 3 + 0) (by omega)
  obtain ⟨g1, e1, ⟨u1, h1, c1⟩, _, _⟩ := H.rowAt i hi (j * 3 + 1) (by omega)
  cases e1
  obtain ⟨g2, e2, ⟨u2, h2, c2⟩, _, _⟩ := H.rowAt i hi (j * 3 + 2) (by omega)
  cases e2
  rw [f 0 (by omega)] at h0; cases h0
  rw [f 1 (by omega)] at h1; cases h1
  rw [f 2 (by omega)] at h2; cases h2
  exact ⟨g, c, rfl, c0, c1, c2⟩
/-- a cell of a segment is stored -/
theorem rowG_set {rows : List Sg} {g c : Nat} (H : Own.St B w0 w Ps) (i : Nat) (hi : Ps[i]? = some (RowG (.slice (some ⟨g, 0, none⟩) rows.length c) rows)) (j k : Nat) (s : Sg) (u : Value) (hj : j < rows.length) (hk : k < 3) (he : (sgC (at_ rows j)).set k u = sgC s) :
    w.frozen? ⟨g, j * 3 + k, none⟩ = false ∧ Own.St B w0 (w.setCell ⟨g, j * 3 + k, none⟩ u) (Ps.set i (RowG (.slice (some ⟨g, 0, none⟩) rows.length c) (rows.set j s))) := by
  obtain ⟨g1, e1, _, fz, put⟩ := H.rowAt i hi (j * 3 + k) (by omega)
  cases e1
  refine ⟨fz, ?_⟩
  have h := put u
  rw [flat_set rows j k s u hj hk he] at h
  rw [show RowG (.slice (some ⟨g, 0, none⟩) rows.length c) (rows.set j s) = ARow 133 3 (.slice (some ⟨g, 0, none⟩) rows.length c) rows.length ((rows.set j s).flatMap sgC) by
    show ARow _ 3 _ (rows.set j s).length _ = _
    rw [List.length_set]]
  exact h
end
/-- what Current answers -/
def curV (t : T) : Value := .tuple #[.int .i64 (((cur t).getD 0 : Nat) : Int), .bool (cur t).isSome]
section
variable {B : Nat} {w0 w : World} {Ps : List Asn} {q : Nat} {v : Value} {t : T} {N : Nat}
end
end Tab
end Go.Proofs.Ytmdphcebmgcdbaa

end
section
namespace Go.Proofs.Ytmdphcebmgcdbaa
open Go.RowKit Go.Own
namespace Tab
open Go.TabM
theorem manySeg : Many Try.prog 93 133 3 24 := ⟨Try.underlying93, by kernel_rfl, by decide⟩
theorem zero_seg : (Try.prog.info? 133).bind (·.zero) = some (.agg (sgC zS).toArray) := by kernel_rfl
theorem flat_fresh (n : Nat) : (List.replicate n (sgC zS)).flatten = (List.replicate n zS).flatMap sgC := by rw [List.flatMap_def, List.map_replicate]
section
variable {B : Nat} {w0 w : World} {Ps : List Asn} {q : Nat} {v : Value} {t : T} {N : Nat}
set_option maxHeartbeats 1600000 in
theorem newR_any (H : Own.St B w0 w Ps) (n : Int) (hn : -9223372036854775808 ≤ n ∧ n ≤ 9223372036854775807) :
    Calls Try.prog 12 #[.int .i64 n] w fun e w' => if mayBe n = true then ∃ q v, e = .returned (.tuple #[ptr q, errT 0]) ∧ Own.St B w0 w' (ARefT q v (fresh n.toNat) :: Ps) else e = .returned (.tuple #[.pointer none, errT 1]) ∧ w' = w := by
  by_cases h1 : n < 0
  · have hm : mayBe n = false := by unfold mayBe; simp; omega
    simp only [hm, Bool.false_eq_true, if_false]
    have d1 : decide (n < 0) = true := decide_eq_true h1
    go_enter Try.func12, Try.ntmps12
    go_wp2
    go_ret2
    exact ⟨rfl, rfl⟩
  have d1 : decide (n < 0) = false := decide_eq_false h1
  by_cases h2 : 256 < n
  · have hm : mayBe n = false := by unfold mayBe; simp; omega
    simp only [hm, Bool.false_eq_true, if_false]
    have d2 : decide (256 < n) = true := decide_eq_true h2
    go_enter Try.func12, Try.ntmps12
    go_wp2
    go_ret2
    exact ⟨rfl, rfl⟩
  have d2 : decide (256 < n) = false := decide_eq_false h2
  have hm : mayBe n = true := by unfold mayBe; simp; omega
  simp only [hm, if_true]
  obtain ⟨k, rfl⟩ := Int.eq_ofNat_of_zero_le (show 0 ≤ n by omega)
  obtain ⟨w2, g, hmk, hst⟩ := St.manyMake (zs := sgC zS) manySeg zero_seg rfl H .i64 .i64 k (by omega) (by decide)
  rw [flat_fresh] at hst
  obtain ⟨q, hq⟩ : ∃ b, b = w2.heap.size := ⟨_, rfl⟩
  have hbx := hst.boxV 107 (tabC (.slice (some ⟨g, 0, none⟩) k k) (fresh k))
  rw [← hq] at hbx
  have H9 : Hid (Own.St B w0 (w2.alloc (.cells #[.slice (some ⟨g, 0, none⟩) k k, .int .u64 1] 107)) (ARefT q (.slice (some ⟨g, 0, none⟩) k k) (fresh k) :: Ps)) := by
    refine ref_close ?_
    have e : RowG (.slice (some ⟨g, 0, none⟩) k k) (fresh k).rows = ARow 133 3 (.slice (some ⟨g, 0, none⟩) k k) k ((List.replicate k zS).flatMap sgC) := by
      show ARow _ 3 _ (List.replicate k zS).length _ = _
      rw [List.length_replicate]
      rfl
    rw [e]
    exact hbx
  clear hst hbx H hm h1 h2
  go_enter Try.func12, Try.ntmps12
  go_wp2
  rw [← hq]
  go_ret2
  exact ⟨q, _, rfl, H9.out⟩

end
end Tab
end Go.Proofs.Ytmdphcebmgcdbaa

end
section
namespace Go.Own
open Go.RowKit
/-- two results, the first a variable of many cells -/
theorem results_cell_two {P : Program} {fn : Func} {p q : Tmp} {ty : TypeId} (h : fn.results = #[.cell p ty, .tmp q]) (tmps : Array Value) (w : World) (g : Nat) (t : TypeId) (cs : Array Value) (fr : Nat × Nat) (d : TypeDesc) (v : Value)
    (hp : tmps.getD p undef = .pointer (some ⟨g, 0, none⟩)) (hq : tmps.getD q undef = v) (hg : w.heap[g]? = some (.cells cs t fr))
    (hu : P.underlying ty = some d) (hd : (match d with | .struct _ | .array _ _ => true | _ => false) = true) (hi : (P.info? ty).map (·.size) = some cs.size) :
    (results fn tmps).run P w = .ok (.tuple #[.agg cs, v]) w := by
  have hp' : tmps[p]?.getD undef = .pointer (some ⟨g, 0, none⟩) := by simpa using hp
  have hq' : tmps[q]?.getD undef = v := by simpa using hq
  simp [results, h, hp', hq', asAddr, run_loadVar_row w g t ty cs fr d hg hu hd hi]
/-- a struct literal, whatever the guard -/
theorem build_e {P : Program} {o : Oper} {t : TypeId} {parts : Array (Nat × Operand)} (ho : o.op = .build t parts) (cells : Array Value) (ρ : Operand → Value) (w : World) (hf : P.built t (parts.map fun (i, x) => (i, ρ x)).toList = some cells) : (execOp ρ o).run P w = .ok (.value (.agg cells)) w := by
  have := run_build w t (parts.map fun (i, x) => (i, ρ x)) cells hf
  simp [execOp, ho, this, Result.andThen]
theorem results_four {P : Program} {fn : Func} {a b c d : Tmp} (h : fn.results = #[.tmp a, .tmp b, .tmp c, .tmp d]) (tmps : Array Value) (w : World) {va vb vc vd : Value} (ha : tmps.getD a undef = va) (hb : tmps.getD b undef = vb) (hc : tmps.getD c undef = vc) (hd : tmps.getD d undef = vd) :
    (results fn tmps).run P w = .ok (.tuple #[va, vb, vc, vd]) w := by
  have ha' : tmps[a]?.getD undef = va := by simpa using ha
  have hb' : tmps[b]?.getD undef = vb := by simpa using hb
  have hc' : tmps[c]?.getD undef = vc := by simpa using hc
  have hd' : tmps[d]?.getD undef = vd := by simpa using hd
  simp [results, h, ha', hb', hc', hd']
end Go.Own

end
section
namespace Go.Proofs.Ytmdphcebmgcdbaa
open Go.RowKit Go.Own
namespace Tab
open Go.TabM
theorem idx_seg {o : Oper} {x y : Tmp} (ho : o.op = .indexAddr 93 (.tmp x) (.tmp y)) {g n c k : Nat} (hk : k < n) (ρ : Operand → Value) (w : World) (h0 : ρ (.tmp x) = .slice (some ⟨g, 0, none⟩) n c) (h1 : ρ (.tmp y) = .int .i64 (k : Int)) : (execOp ρ o).run Try.prog w = .ok (.value (.pointer (some ⟨g, k * 3, none⟩))) w := by
  have hk' : (k : Int) < (n : Int) := by omega
  simp [execOp, ho, h0, h1, go_sem, hk', add_of]
theorem sat_lt {o : Oper} {x : Tmp} (ho : o.op = .binOp .lss 50 (.tmp x) (.const (.int .u32 4294967295)) 50) {k : Nat} (hk : k ≤ 100000) (ρ : Operand → Value) (w : World) (h0 : ρ (.tmp x) = .int .u32 (k : Int)) (h1 : ρ (.const (.int .u32 4294967295)) = .int .u32 4294967295) : (execOp ρ o).run Try.prog w = .ok (.value (.bool true)) w := by
  have hk' : (k : Int) < 4294967295 := by omega
  simp [execOp, ho, h0, h1, go_sem, hk']
/-- what Open answers -/
def opV (x : Nat × Nat × Nat) : Value := .tuple #[.int .i64 (x.1 : Int), .int .u64 (x.2.1 : Int), errT x.2.2]
section
variable {B : Nat} {w0 w : World} {Ps : List Asn} {q : Nat} {v : Value} {t : T} {N : Nat}
end
end Tab
end Go.Proofs.Ytmdphcebmgcdbaa

end
section
namespace Go.Proofs.Ytmdphcebmgcdbaa
open Go.RowKit Go.Own

theorem Try.infoU8 : (Try.prog.info? 5).map (fun i => (i.zero, i.size, i.bytes)) = some (some (.int .u8 0), 1, 1) := by kernel_rfl

namespace Cod

/-- the many lowest bytes of n, the least significant one first -/
def le (n : Nat) : Nat → List UInt8
  | 0 => []
  | k + 1 => le n k ++ [UInt8.ofNat (n / 2 ^ (8 * k))]
theorem le_len (n k : Nat) : (le n k).length = k := by induction k <;> simp [le, *]

theorem le_byte (n k : Nat) : IntKind.u8.wrap ((n : Int) / 2 ^ (8 * (k : Int)).toNat) = ((UInt8.ofNat (n / 2 ^ (8 * k))).toNat : Int) := by
  have e : (8 * (k : Int)).toNat = 8 * k := by omega
  rw [e, IntKind.wrap_u8]
  simp

/-- a writer as plain data: its room, what was written, its first error -/
structure WS where
  room : Int
  xs : List UInt8
  err : Int

def WS.lay (s : WS) (bs : List UInt8) : WS := if s.err ≠ 0 then s else if s.room - s.xs.length < bs.length then { s with err := 4 } else { s with xs := s.xs ++ bs }
def WS.num (s : WS) (n : Nat) (many : Int) : WS := if s.err ≠ 0 then s else if many < 0 ∨ 8 < many then { s with err := 1 } else s.lay (le n many.toNat)
def WS.blob (s : WS) (bs : List UInt8) : WS := if s.err ≠ 0 then s else if 65535 < bs.length then { s with err := 4 } else s.lay (le bs.length 2 ++ bs)

/-- What a writer is in memory: its block, its row, and all the blocks that it holds. -/
def Wr (w : World) (S : Nat → Prop) (p : Nat) (s : WS) : Prop :=
  ∃ v T, w.heap[p]? = some (.cells #[.int .i64 s.room, v, .int .i64 s.err] 170 (0, 0)) ∧ Row w 5 1 T v s.xs.length (s.xs.map byteV) ∧ ¬ T p ∧ (∀ k, S k ↔ (k = p ∨ T k)) ∧ 0 ≤ s.room ∧ s.room ≤ 9223372036854775807

/-- the writer is so, and only its blocks have turned -/
def WrTo (S : Nat → Prop) (p : Nat) (s : WS) (w w' : World) : Prop := ∃ S', Wr w' S' p s ∧ Step S S' w w'

theorem Wr.keep {w w' : World} {S T U : Nat → Prop} {p : Nat} {s : WS} (h : Wr w S p s) (g : Step T U w w') (hd : Dis S T) : Wr w' S p s := by
  obtain ⟨v, R, hb, hr, hR, hS, h0, h1⟩ := h
  exact ⟨v, R, (g.block p (lt_of_block hb) (hd p ((hS p).2 (.inl rfl)))).trans hb, hr.step g (fun k hk => hd k ((hS k).2 (.inr hk))), hR, hS, h0, h1⟩

theorem Wr.lt {w : World} {S : Nat → Prop} {p : Nat} {s : WS} (h : Wr w S p s) : ∀ k, S k → k < w.heap.size := by
  obtain ⟨v, R, hb, hr, hR, hS, h0, h1⟩ := h
  intro k hk
  rcases (hS k).1 hk with rfl | h
  · exact lt_of_block hb
  · exact hr.lt k h

theorem Wr.drewN {w : World} {S : Nat → Prop} {p : Nat} {s : WS} (h : Wr w S p s) (n : Nat) : WrTo S p s w (w.drewN n) :=
  ⟨S, h.keep (T := fun _ => False) (U := fun _ => False) ((Step.refl _ _).drewN n) (fun _ _ h => h), (Step.refl _ _).drewN n⟩

theorem WrTo.trans {S : Nat → Prop} {p : Nat} {s s' : WS} {w w1 w2 : World} (h : WrTo S p s w w1) (g : ∀ S', Wr w1 S' p s → WrTo S' p s' w1 w2) : WrTo S p s' w w2 := by
  obtain ⟨S', h1, h2⟩ := h
  obtain ⟨S'', h3, h4⟩ := g S' h1
  exact ⟨S'', h3, h2.trans h4⟩

/-- the error is set -/
theorem Wr.fault {w : World} {S : Nat → Prop} {p : Nat} {s : WS} (h : Wr w S p s) (n : Nat) (x : Int) : WrTo S p { s with err := x } w ((w.drewN n).setCell ⟨p, 2, none⟩ (.int .i64 x)) := by
  obtain ⟨v, R, hb, hr, hR, hS, h0, h1⟩ := h
  have g : Step (fun k => k = p) (fun k => k = p) w ((w.drewN n).setCell ⟨p, 2, none⟩ (.int .i64 x)) := ((Step.refl (fun k => k = p) w).drewN n).setCell (a := ⟨p, 2, none⟩) (Or.inl rfl) _
  refine ⟨S, ⟨v, R, ?_, hr.step g (fun k h e => hR (e ▸ h)), hR, hS, h0, h1⟩, ((Step.refl S w).drewN n).setCell (a := ⟨p, 2, none⟩) (Or.inl ((hS p).2 (.inl rfl))) _⟩
  have e : (w.drewN n).heap[p]? = some (.cells #[.int .i64 s.room, v, .int .i64 s.err] 170 (0, 0)) := hb
  rw [block_setCell e]
  rfl

theorem Wr.push {wr w0 w1 : World} {S T T' : Nat → Prop} {p : Nat} {s : WS} {v v' : Value} {c : UInt8}
    (hb : wr.heap[p]? = some (.cells #[.int .i64 s.room, v, .int .i64 s.err] 170 (0, 0))) (hT : ¬ T p) (hS : ∀ k, S k ↔ (k = p ∨ T k)) (hr0 : 0 ≤ s.room) (hr1 : s.room ≤ 9223372036854775807)
    (h0 : Step T T wr w0) (hs : Step T T' w0 w1) (hr : Row w1 5 1 T' v' (s.xs.length + 1) (s.xs.map byteV ++ [byteV c])) :
    WrTo S p { s with xs := s.xs ++ [c] } wr (w1.setCell ⟨p, 1, none⟩ v') := by
  have hp := lt_of_block hb
  have h1 := h0.trans hs
  have hT' : ¬ T' p := fun h => (h1.new p h).elim hT (fun h => by omega)
  have hb1 : w1.heap[p]? = _ := (h1.block p hp hT).trans hb
  refine ⟨fun k => k = p ∨ T' k, ⟨v', T', by rw [block_setCell hb1]; rfl, ?_, hT', fun _ => Iff.rfl, hr0, hr1⟩, ?_⟩
  · have e : (s.xs ++ [c]).length = s.xs.length + 1 := by simp
    show Row _ _ _ _ _ (s.xs ++ [c]).length ((s.xs ++ [c]).map byteV)
    rw [e, List.map_append]
    exact hr.step (S := fun k => k = p) (U := fun k => k = p) ((Step.refl (fun k => k = p) w1).setCell (a := ⟨p, 1, none⟩) (Or.inl rfl) _) (fun k h e => hT' (e ▸ h))
  · have h2 : Step S (fun k => k = p ∨ T' k) wr w1 := ⟨h1.os, h1.tape, h1.output, h1.size, fun k hk hs => h1.block k hk (fun ht => hs ((hS k).2 (.inr ht))), fun k hk => hk.elim (fun e => .inl ((hS k).2 (.inl e))) (fun ht => (h1.new k ht).imp_left fun h => (hS k).2 (.inr h))⟩
    exact h2.setCell (Or.inl ((hS p).2 (.inl rfl))) _

/-- a call that answers nothing and leaves a writer so -/
def WDone (S : Nat → Prop) (p : Nat) (s : WS) (w : World) (e : Ending) (w' : World) : Prop := e = .returned (.tuple #[]) ∧ WrTo S p s w w'

set_option maxHeartbeats 400000 in
theorem putNum_any (S : Nat → Prop) (p : Nat) (s : WS) (n many : Nat) (w : World)
    (hW : Wr w S p s) (hm : many ≤ 8) (hxs : s.xs.length ≤ 100000000) :
    Calls Try.prog 83 #[.pointer (some ⟨p, 0, none⟩), .int .u64 n, .int .i64 many] w (WDone S p { s with xs := s.xs ++ le n many } w) := by
  obtain ⟨i0, hi, hz0, hz1, hz2⟩ := info_parts Try.infoU8
  go_enter Try.func83, Try.ntmps83
  go_wp2
  go_loopw [6, 8] (fun _ i wr => ∃ k : Nat, k ≤ many ∧ i = .int .i64 k ∧ WrTo S p { s with xs := s.xs ++ le n k } w wr) (fun _ i _ => many - (intOf i).toNat)
  case atStart => exact ⟨0, Nat.zero_le _, rfl, S, by simpa [le] using hW, Step.refl _ _⟩
  case round =>
    obtain ⟨k, hk, rfl, S', ⟨v, T, hb, hrow, hT, hS, hr0, hr1⟩, hst⟩ := hrel
    have hlen : (s.xs ++ le n k).length ≤ 100000008 := by rw [List.length_append, le_len]; omega
    obtain ⟨ao, cap, rfl, hc1, hc2, -⟩ := hrow.form
    have h1 := cell_of_block (i := 1) hb rfl
    have hp := lt_of_block hb
    by_cases hlt : k < many
    · have hk8 : IntKind.i64.wrap (8 * (k : Int)) = 8 * (k : Int) := IntWalk.i64_in _ (by omega)
      have hk0 : (0 : Int) ≤ 8 * (k : Int) := by omega
      obtain ⟨c, hc⟩ : ∃ c, c = UInt8.ofNat (n / 2 ^ (8 * k)) := ⟨_, rfl⟩
      have hB : IntKind.u8.wrap ((n : Int) / 2 ^ (8 * (k : Int)).toNat) = (c.toNat : Int) := by rw [hc]; exact le_byte n k
      have HC := Lib.hid hc
      clear hc
      generalize hys : s.xs ++ le n k = ys at *
      have HY := Lib.hid hys
      clear hys
      simp only at hb hrow hr0 hr1 h1 hlen hc1
      go_wp2
      go_region_law (refine step_append_row rfl (.tmp 15) (.tmp 21) 56 rfl 5 i0 (.int .u8 0) 1 1 Try.underlying56 hi hz0 hz1 hz2 rfl (by decide) _ _ _ (by simp [Act.eval]) (hrow.alloc _).drew (some ⟨wr.heap.size, 0, none⟩) 1 1 [byteV c] (by simp [Act.eval]) (by intro h; cases h) rfl (cell_new_byte _ _ _) (byteV_one [_]) (by unfold maxLen; omega) (by omega) ?_; intro v' w1 T' hr' hs'; obtain ⟨ao', cap', rfl, -⟩ := hr'.form; have hb1 := ((((Step.refl T wr).alloc _).drew).trans hs').block p (lt_of_block hb) hT |>.trans hb; have c1 := cell_of_block (i := 1) hb1 rfl; have f1 := frozen_of_block (i := 1) hb1)
      all_goals
        have r := Wr.push (s := { s with xs := ys }) hb hT hS hr0 hr1 (((Step.refl T wr).alloc _).drew) hs' hr'
        clear hb1 c1 f1
        go_wp2
        go_roundw
        case rel =>
          obtain ⟨S'', r1, r2⟩ := r
          exact ⟨k + 1, by omega, by go_num, S'', by rw [le, ← List.append_assoc, HY.out, ← HC.out]; exact r1, hst.trans r2⟩
        case measure => simp [intOf]; omega
    · have hkm : k = many := by omega
      have HK := Lib.hid hkm
      clear hkm
      go_wp2
      go_end0
      exact ⟨rfl, S', by rw [← HK.out]; exact ⟨_, T, hb, hrow, hT, hS, hr0, hr1⟩, hst⟩

set_option maxHeartbeats 400000 in
theorem putBytes_any (S D : Nat → Prop) (p : Nat) (s : WS) (ao : Option Addr) (bs : List UInt8) (cap : Nat) (w : World)
    (hW : Wr w S p s) (hV : View w D ao bs) (hD : Dis D S) (hbs : bs.length ≤ 100000000) (hxs : s.xs.length ≤ 100000000) :
    Calls Try.prog 84 #[.pointer (some ⟨p, 0, none⟩), .slice ao bs.length cap] w (WDone S p { s with xs := s.xs ++ bs } w) := by
  obtain ⟨i0, hi, hz0, hz1, hz2⟩ := info_parts Try.infoU8
  obtain ⟨len, hl⟩ : ∃ len, len = bs.length := ⟨_, rfl⟩
  rw [← hl]
  rw [← hl] at hbs
  have HL := Lib.hid hl
  clear hl
  go_enter Try.func84, Try.ntmps84
  go_wp2
  go_loopw [4, 7] (fun _ i wr => ∃ k : Nat, k ≤ len ∧ i = .int .i64 k ∧ WrTo S p { s with xs := s.xs ++ bs.take k } w wr) (fun _ i _ => len - (intOf i).toNat)
  case atStart => exact ⟨0, Nat.zero_le _, rfl, S, by simpa using hW, Step.refl _ _⟩
  case round =>
    obtain ⟨k, hk, rfl, S', ⟨v, T, hb, hrow, hT, hS, hr0, hr1⟩, hst⟩ := hrel
    have hlen : (s.xs ++ bs.take k).length ≤ 200000000 := by have := HL.out; rw [List.length_append, List.length_take]; omega
    obtain ⟨ao', cap', rfl, hc1, hc2, -⟩ := hrow.form
    have h1 := cell_of_block (i := 1) hb rfl
    have hp := lt_of_block hb
    by_cases hlt : k < len
    · obtain ⟨b, o, rfl, hbD, hbw, hc⟩ : ∃ b o, ao = some ⟨b, o, none⟩ ∧ D b ∧ b < w.heap.size ∧ ∀ j, j < bs.length → w.cell? ⟨b, o + j, none⟩ = some (.int .u8 ((bs.getD j 0).toNat : Int)) := by
        rcases hV with h | h
        · have := HL.out; rw [h] at this; simp at this; omega
        · exact h
      obtain ⟨c, hcd⟩ : ∃ c, c = bs.getD k 0 := ⟨_, rfl⟩
      have hcx : wr.cell? ⟨b, o + k, none⟩ = some (.int .u8 (c.toNat : Int)) := by
        rw [hcd]; exact (World.cell?_of_block (w := w) (hst.block b hbw (hD b hbD))).trans (hc k (by rw [← HL.out]; exact hlt))
      have hbw' : b < wr.heap.size := Nat.lt_of_lt_of_le hbw hst.size
      have hsn : bs.take (k + 1) = bs.take k ++ [c] := by
        rw [List.take_succ_eq_append_getElem (by rw [← HL.out]; exact hlt), hcd]
        simp [show k < bs.length by rw [← HL.out]; exact hlt]
      have HC := Lib.hid hsn
      clear hcd hsn hc hbD hbw hV
      generalize hys : s.xs ++ bs.take k = ys at *
      have HY := Lib.hid hys
      clear hys
      simp only at hb hrow hr0 hr1 h1 hlen hc1
      go_wp2
      go_region_law (refine step_append_row rfl (.tmp 14) (.tmp 19) 56 rfl 5 i0 (.int .u8 0) 1 1 Try.underlying56 hi hz0 hz1 hz2 rfl (by decide) _ _ _ (by simp [Act.eval]) (hrow.alloc _).drew (some ⟨wr.heap.size, 0, none⟩) 1 1 [byteV c] (by simp [Act.eval]) (by intro h; cases h) rfl (cell_new_byte _ _ _) (byteV_one [_]) (by unfold maxLen; omega) (by omega) ?_; intro v' w1 T' hr' hs'; obtain ⟨ao'', cap'', rfl, -⟩ := hr'.form; have hb1 := ((((Step.refl T wr).alloc _).drew).trans hs').block p (lt_of_block hb) hT |>.trans hb; have c1 := cell_of_block (i := 1) hb1 rfl; have f1 := frozen_of_block (i := 1) hb1)
      all_goals
        have r := Wr.push (s := { s with xs := ys }) hb hT hS hr0 hr1 (((Step.refl T wr).alloc _).drew) hs' hr'
        clear hb1 c1 f1
        go_wp2
        go_roundw
        case rel =>
          obtain ⟨S'', r1, r2⟩ := r
          exact ⟨k + 1, by omega, by go_num, S'', by rw [HC.out, ← List.append_assoc, HY.out]; exact r1, hst.trans r2⟩
        case measure => simp [intOf]; omega
    · have hkm : bs.take k = bs := List.take_of_length_le (by rw [← HL.out]; omega)
      have HK := Lib.hid hkm
      clear hkm
      have hkl : (k : Int) = len := by omega
      have HKL := Lib.hid hkl
      clear hkl
      go_wp2
      go_end0
      exact ⟨rfl, S', by rw [← HK.out]; exact ⟨_, T, hb, hrow, hT, hS, hr0, hr1⟩, hst⟩

end Cod
end Go.Proofs.Ytmdphcebmgcdbaa

end
section
namespace Go.Proofs.Ytmdphcebmgcdbaa
open Go.RowKit Go.Own
namespace Cod

set_option maxHeartbeats 400000 in
theorem fits_yes (S : Nat → Prop) (p : Nat) (s : WS) (size : Int) (w : World) (hW : Wr w S p s) (hxs : s.xs.length ≤ 200000000) (_h0 : 0 ≤ size) (hs : size ≤ s.room - s.xs.length) :
    Calls Try.prog 82 #[.pointer (some ⟨p, 0, none⟩), .int .i64 size] w fun e w' => e = .returned (.bool true) ∧ WrTo S p s w w' := by
  have hW0 := Lib.hid hW
  obtain ⟨v, T, hb, hrow, hT, hS, hr0, hr1⟩ := hW
  obtain ⟨ao, cap, rfl, hc1, hc2, -⟩ := hrow.form
  have h0 := cell_of_block (i := 0) hb rfl
  have h1 := cell_of_block (i := 1) hb rfl
  go_enter Try.func82, Try.ntmps82
  go_wp2
  go_quiet (fail)
  go_wp2
  go_ret
  exact ⟨rfl, hW0.out.drewN _⟩

set_option maxHeartbeats 400000 in
theorem fits_no (S : Nat → Prop) (p : Nat) (s : WS) (size : Int) (w : World) (hW : Wr w S p s) (hxs : s.xs.length ≤ 200000000) (_h0 : 0 ≤ size) (hs : s.room - s.xs.length < size) :
    Calls Try.prog 82 #[.pointer (some ⟨p, 0, none⟩), .int .i64 size] w fun e w' => e = .returned (.bool false) ∧ WrTo S p { s with err := 4 } w w' := by
  have hW0 := Lib.hid hW
  obtain ⟨v, T, hb, hrow, hT, hS, hr0, hr1⟩ := hW
  obtain ⟨ao, cap, rfl, hc1, hc2, -⟩ := hrow.form
  have h0 := cell_of_block (i := 0) hb rfl
  have h1 := cell_of_block (i := 1) hb rfl
  have h2 := cell_of_block (i := 2) hb rfl
  have f2 := frozen_of_block (i := 2) hb
  go_enter Try.func82, Try.ntmps82
  go_wp2
  go_quiet (fail)
  go_wp2
  go_ret
  exact ⟨rfl, hW0.out.fault _ 4⟩

/-- what a copy of bytes leaves: new memory with the same bytes, or nil -/
def CloneDone (bs : List UInt8) (w : World) (e : Ending) (w' : World) : Prop :=
  ∃ ao cap T, e = .returned (.slice ao bs.length cap) ∧ Row w' 5 1 T (.slice ao bs.length cap) bs.length (bs.map byteV) ∧ Step (fun _ => False) T w w'

theorem view_cells {w : World} {D : Nat → Prop} {ao : Option Addr} {bs : List UInt8} (h : View w D ao bs) : ∀ a, ao = some a → ∀ j u, (bs.map byteV)[j]? = some u → w.cell? (a.add j) = some u := by
  intro a ha j u hu
  have hj := (List.getElem?_eq_some_iff.1 hu).1
  rw [List.length_map] at hj
  rcases h with rfl | ⟨b, o, hab, _, _, hc⟩
  · simp at hj
  · rw [ha] at hab
    cases hab
    have e : (⟨b, o, none⟩ : Addr).add j = ⟨b, o + j, none⟩ := by unfold Addr.add; split <;> simp_all
    rw [e, hc j hj]
    rw [← hu]
    simp [byteV, hj]

set_option maxHeartbeats 400000 in
theorem clone_any (D : Nat → Prop) (ao : Option Addr) (bs : List UInt8) (cap : Nat) (w : World) (hV : View w D ao bs) (hbs : bs.length ≤ 1000000000) :
    Calls Try.prog 75 #[.slice ao bs.length cap] w (CloneDone bs w) := by
  obtain ⟨i0, hi, hz0, hz1, hz2⟩ := info_parts Try.infoU8
  cases ao with
  | none =>
    have hb : bs = [] := by
      rcases hV with h | ⟨b, o, h, _⟩
      · exact h
      · cases h
    subst hb
    have heq := fun wx => Lib.run_eql_slice_nil (P := Try.prog) wx 56 5 none 0 cap 0 0 Try.underlying56
    show Calls Try.prog 75 #[.slice none 0 cap] w _
    go_enter Try.func75, Try.ntmps75
    go_wp2
    go_ret
    exact ⟨none, 0, _, rfl, Row.nil _ _ _, Step.refl _ _⟩
  | some a =>
    have hc := view_cells hV
    have HC := Lib.hid hc
    clear hc hV
    obtain ⟨n, hn⟩ : ∃ n, n = bs.length := ⟨_, rfl⟩
    rw [← hn] at hbs ⊢
    have heq := fun wx => Lib.run_eql_slice_nil (P := Try.prog) wx 56 5 (some a) n cap 0 0 Try.underlying56
    have HN := Lib.hid hn
    clear hn
    go_enter Try.func75, Try.ntmps75
    go_wp2_with (at_builtin; go_loud (refine wpList_append_row rfl (.tmp 5) (.tmp 6) 56 rfl 5 i0 (.int .u8 0) 1 1 Try.underlying56 hi hz0 hz1 hz2 rfl (by decide) (.slice (some ⟨w.heap.size, 0, none⟩) 0 0) 0 [] rfl (Row.made w #[] 5 1 0 (Nat.zero_le _) rfl) (some a) n cap (bs.map byteV) rfl (by intro h; cases h) ?hl ?hnews (byteV_one _) ?b1 ?b2 ?_))
    case hl => rw [List.length_map, Nat.mul_one]; exact HN.out.symm
    case hnews =>
      intro a' ha j u hu
      have := HC.out a' ha j u hu
      exact cell_alloc this _
    case b1 => unfold maxLen; omega
    case b2 => omega
    intro v' w' T' hr' hs'
    obtain ⟨ao', cap', rfl, -⟩ := hr'.form
    go_wp2
    go_ret
    simp only at hr' ⊢
    have e := HN.out
    subst e
    exact ⟨ao', cap', T', rfl, hr', (((Step.refl (fun _ => False) w).alloc _).to (fun k hk => Or.inr (Nat.le_of_eq hk.symm))).trans hs'⟩

end Cod
end Go.Proofs.Ytmdphcebmgcdbaa

end
section
namespace Go.Proofs.Ytmdphcebmgcdbaa
open Go.RowKit Go.Own
namespace Cod

def NewWDone (room : Int) (w : World) (e : Ending) (w' : World) : Prop :=
  ∃ p S, e = .returned (.pointer (some ⟨p, 0, none⟩)) ∧ Wr w' S p ⟨max room 0, [], 0⟩ ∧ Step (fun _ => False) S w w'

theorem newWriter_any (room : Int) (w : World) (h1 : room ≤ 9223372036854775807) :
    Calls Try.prog 64 #[.int .i64 room] w (NewWDone room w) := by
  have key : ∀ r : Int, max room 0 = r → 0 ≤ r → r ≤ 9223372036854775807 → NewWDone room w (.returned (.pointer (some ⟨w.heap.size, 0, none⟩))) (w.alloc (.cells #[.int .i64 r, .slice none 0 0, .int .i64 0] 170)) := by
    intro r hr h0 hm
    refine ⟨_, fun k => k = w.heap.size, rfl, ?_, ((Step.refl (fun _ => False) w).alloc _).to (fun k hk => Or.inr (Nat.le_of_eq hk.symm))⟩
    rw [hr]
    exact ⟨.slice none 0 0, fun _ => False, heap_alloc_new w _, Row.nil _ _ _, fun h => h, fun k => by simp, h0, hm⟩
  have K := Lib.hid key
  clear key
  go_enter Try.func64, Try.ntmps64
  go_wp2
  all_goals go_ret
  all_goals first
    | exact K.out 0 (by omega) (by omega) (by omega)
    | exact K.out room (by omega) (by omega) h1
    | (refine K.out _ ?_ ?_ ?_ <;> first | omega | (split <;> omega))

set_option maxHeartbeats 400000 in
theorem num_any (S : Nat → Prop) (p : Nat) (s : WS) (n : Nat) (many : Int) (w : World) (hW : Wr w S p s) (hxs : s.xs.length ≤ 100000000) :
    Calls Try.prog 65 #[.pointer (some ⟨p, 0, none⟩), .int .u64 n, .int .i64 many] w (WDone S p (s.num n many) w) := by
  have hW0 := Lib.hid hW
  obtain ⟨v, T, hb, hrow, hT, hS, hr0, hr1⟩ := hW
  have h2 := cell_of_block (i := 2) hb rfl
  have f2 := frozen_of_block (i := 2) hb
  obtain ⟨room, xs, err⟩ := s
  simp only at h2 hr0 hr1 hxs
  clear hb hrow hT hS
  by_cases he : err = 0
  · subst he
    by_cases h0 : many < 0
    · have hfin : Hid (WS.num ⟨room, xs, 0⟩ n many = ⟨room, xs, 1⟩) := by simp [Hid, WS.num, h0]
      go_enter Try.func65, Try.ntmps65
      go_wp2
      go_end0
      rw [hfin.out]
      exact ⟨rfl, hW0.out.fault 0 1⟩
    · by_cases h8 : 8 < many
      · have hfin : Hid (WS.num ⟨room, xs, 0⟩ n many = ⟨room, xs, 1⟩) := by simp [Hid, WS.num, h8]
        go_enter Try.func65, Try.ntmps65
        go_wp2
        go_end0
        rw [hfin.out]
        exact ⟨rfl, hW0.out.fault 0 1⟩
      · obtain ⟨k, rfl⟩ := Int.eq_ofNat_of_zero_le (show 0 ≤ many by omega)
        by_cases hf : (k : Int) ≤ room - xs.length
        · have hfin : Hid (WS.num ⟨room, xs, 0⟩ n k = ⟨room, xs ++ le n k, 0⟩) := by
            simp only [Hid, WS.num, WS.lay]
            rw [if_neg (by simp), if_neg (by omega), if_neg (by simp), if_neg (by rw [Int.toNat_natCast, le_len]; omega), Int.toNat_natCast]
          go_enter Try.func65, Try.ntmps65
          go_wp2_with (fail)
          refine (fits_yes S p ⟨room, xs, 0⟩ k w hW0.out (by simp; omega) (by omega) hf).mono ?_
          rintro e w1 ⟨rfl, S1, hW1, hs1⟩
          have HW1 := Lib.hid hW1
          clear hW1
          go_wp2_with (fail)
          refine (putNum_any S1 p ⟨room, xs, 0⟩ n k w1 HW1.out (by omega) hxs).mono ?_
          rintro e w2 ⟨rfl, S2, hW2, hs2⟩
          have HW2 := Lib.hid hW2
          clear hW2
          go_wp2_with (fail)
          go_end0
          rw [hfin.out]
          exact ⟨rfl, S2, HW2.out, hs1.trans hs2⟩
        · have hfin : Hid (WS.num ⟨room, xs, 0⟩ n k = ⟨room, xs, 4⟩) := by
            simp only [Hid, WS.num, WS.lay]
            rw [if_neg (by simp), if_neg (by omega), if_neg (by simp), if_pos (by rw [Int.toNat_natCast, le_len]; omega)]
          go_enter Try.func65, Try.ntmps65
          go_wp2_with (fail)
          refine (fits_no S p ⟨room, xs, 0⟩ k w hW0.out (by simp; omega) (by omega) (by show room - xs.length < _; omega)).mono ?_
          rintro e w1 ⟨rfl, S1, hW1, hs1⟩
          have HW1 := Lib.hid hW1
          clear hW1
          go_wp2_with (fail)
          go_end0
          rw [hfin.out]
          exact ⟨rfl, S1, HW1.out, hs1⟩
  · have hfin : Hid (WS.num ⟨room, xs, err⟩ n many = ⟨room, xs, err⟩) := by simp [Hid, WS.num, he]
    have he' : (err == 0) = false := by simp [he]
    go_enter Try.func65, Try.ntmps65
    go_wp2
    go_end0
    rw [hfin.out]
    exact ⟨rfl, hW0.out.drewN 0⟩

set_option maxHeartbeats 400000 in
theorem raw_any (S D : Nat → Prop) (p : Nat) (s : WS) (ao : Option Addr) (bs : List UInt8) (cap : Nat) (w : World) (hW : Wr w S p s) (hV : View w D ao bs) (hD : Dis D S) (hbs : bs.length ≤ 100000000) (hxs : s.xs.length ≤ 100000000) :
    Calls Try.prog 67 #[.pointer (some ⟨p, 0, none⟩), .slice ao bs.length cap] w (WDone S p (s.lay bs) w) := by
  have hW0 := Lib.hid hW
  have hV0 := Lib.hid hV
  obtain ⟨v, T, hb, hrow, hT, hS, hr0, hr1⟩ := hW
  have h2 := cell_of_block (i := 2) hb rfl
  obtain ⟨room, xs, err⟩ := s
  simp only at h2 hr0 hr1 hxs
  clear hb hrow hT hV
  by_cases he : err = 0
  · subst he
    by_cases hf : (bs.length : Int) ≤ room - xs.length
    · have hfin : Hid (WS.lay ⟨room, xs, 0⟩ bs = ⟨room, xs ++ bs, 0⟩) := by
        simp only [Hid, WS.lay]
        rw [if_neg (by simp), if_neg (by omega)]
      go_enter Try.func67, Try.ntmps67
      go_wp2_with (fail)
      refine (fits_yes S p ⟨room, xs, 0⟩ bs.length w hW0.out (by simp; omega) (by omega) hf).mono ?_
      rintro e w1 ⟨rfl, S1, hW1, hs1⟩
      have HW1 := Lib.hid hW1
      clear hW1
      go_wp2_with (fail)
      refine (putBytes_any S1 _ p ⟨room, xs, 0⟩ ao bs cap w1 HW1.out (hV0.out.live.step hs1 (fun k hk => hD k hk.1)) (hD.step hs1) hbs hxs).mono ?_
      rintro e w2 ⟨rfl, S2, hW2, hs2⟩
      have HW2 := Lib.hid hW2
      clear hW2
      go_wp2_with (fail)
      go_end0
      rw [hfin.out]
      exact ⟨rfl, S2, HW2.out, hs1.trans hs2⟩
    · have hfin : Hid (WS.lay ⟨room, xs, 0⟩ bs = ⟨room, xs, 4⟩) := by
        simp only [Hid, WS.lay]
        rw [if_neg (by simp), if_pos (by omega)]
      go_enter Try.func67, Try.ntmps67
      go_wp2_with (fail)
      refine (fits_no S p ⟨room, xs, 0⟩ bs.length w hW0.out (by simp; omega) (by omega) (by show room - xs.length < _; omega)).mono ?_
      rintro e w1 ⟨rfl, S1, hW1, hs1⟩
      have HW1 := Lib.hid hW1
      clear hW1
      go_wp2_with (fail)
      go_end0
      rw [hfin.out]
      exact ⟨rfl, S1, HW1.out, hs1⟩
  · have hfin : Hid (WS.lay ⟨room, xs, err⟩ bs = ⟨room, xs, err⟩) := by simp [Hid, WS.lay, he]
    have he' : (err == 0) = false := by simp [he]
    go_enter Try.func67, Try.ntmps67
    go_wp2
    go_end0
    rw [hfin.out]
    exact ⟨rfl, hW0.out.drewN 0⟩

theorem WDone.seq {S S1 : Nat → Prop} {p : Nat} {s1 s2 : WS} {w w1 w2 : World} (h : Step S S1 w w1) (g : WrTo S1 p s2 w1 w2) : WrTo S p s2 w w2 := by
  obtain ⟨S2, h2, h3⟩ := g
  exact ⟨S2, h2, h.trans h3⟩

set_option maxHeartbeats 400000 in
theorem blob_any (S D : Nat → Prop) (p : Nat) (s : WS) (ao : Option Addr) (bs : List UInt8) (cap : Nat) (w : World) (hW : Wr w S p s) (hV : View w D ao bs) (hD : Dis D S) (hbs : bs.length ≤ 90000000) (hxs : s.xs.length ≤ 90000000) :
    Calls Try.prog 68 #[.pointer (some ⟨p, 0, none⟩), .slice ao bs.length cap] w (WDone S p (s.blob bs) w) := by
  have hW0 := Lib.hid hW
  have hV0 := Lib.hid hV
  obtain ⟨v, T, hb, hrow, hT, hS, hr0, hr1⟩ := hW
  have h2 := cell_of_block (i := 2) hb rfl
  have f2 := frozen_of_block (i := 2) hb
  obtain ⟨room, xs, err⟩ := s
  simp only at h2 hr0 hr1 hxs
  clear hb hrow hT hV
  by_cases he : err = 0
  · subst he
    by_cases hlong : 65535 < bs.length
    · have hfin : Hid (WS.blob ⟨room, xs, 0⟩ bs = ⟨room, xs, 4⟩) := by
        simp only [Hid, WS.blob]
        rw [if_neg (by simp), if_pos hlong]
      go_enter Try.func68, Try.ntmps68
      go_wp2
      go_end0
      rw [hfin.out]
      exact ⟨rfl, hW0.out.fault 0 4⟩
    · by_cases hf : (2 : Int) + bs.length ≤ room - xs.length
      · have hfin : Hid (WS.blob ⟨room, xs, 0⟩ bs = ⟨room, (xs ++ le bs.length 2) ++ bs, 0⟩) := by
          simp only [Hid, WS.blob, WS.lay]
          rw [if_neg (by simp), if_neg hlong, if_neg (by simp), if_neg (by rw [List.length_append, le_len]; omega), List.append_assoc]
        go_enter Try.func68, Try.ntmps68
        go_wp2_with (fail)
        refine (fits_yes S p ⟨room, xs, 0⟩ (2 + bs.length) w hW0.out (by simp; omega) (by omega) hf).mono ?_
        rintro e w1 ⟨rfl, S1, hW1, hs1⟩
        have HW1 := Lib.hid hW1
        clear hW1
        go_wp2_with (fail)
        refine (putNum_any S1 p ⟨room, xs, 0⟩ bs.length 2 w1 HW1.out (by omega) (by simp; omega)).mono ?_
        rintro e w2 ⟨rfl, S2, hW2, hs2⟩
        have HW2 := Lib.hid hW2
        clear hW2
        go_wp2_with (fail)
        refine (putBytes_any S2 _ p ⟨room, xs ++ le bs.length 2, 0⟩ ao bs cap w2 HW2.out (hV0.out.live.step (hs1.trans hs2) (fun k hk => hD k hk.1)) (hD.step (hs1.trans hs2)) (by omega) (by simp [le_len]; omega)).mono ?_
        rintro e w3 ⟨rfl, S3, hW3, hs3⟩
        have HW3 := Lib.hid hW3
        clear hW3
        go_wp2_with (fail)
        go_end0
        rw [hfin.out]
        exact ⟨rfl, S3, HW3.out, (hs1.trans hs2).trans hs3⟩
      · have hfin : Hid (WS.blob ⟨room, xs, 0⟩ bs = ⟨room, xs, 4⟩) := by
          simp only [Hid, WS.blob, WS.lay]
          rw [if_neg (by simp), if_neg hlong, if_neg (by simp), if_pos (by rw [List.length_append, le_len]; omega)]
        go_enter Try.func68, Try.ntmps68
        go_wp2_with (fail)
        refine (fits_no S p ⟨room, xs, 0⟩ (2 + bs.length) w hW0.out (by simp; omega) (by omega) (by show room - xs.length < _; omega)).mono ?_
        rintro e w1 ⟨rfl, S1, hW1, hs1⟩
        have HW1 := Lib.hid hW1
        clear hW1
        go_wp2_with (fail)
        go_end0
        rw [hfin.out]
        exact ⟨rfl, S1, HW1.out, hs1⟩
  · have hfin : Hid (WS.blob ⟨room, xs, err⟩ bs = ⟨room, xs, err⟩) := by simp [Hid, WS.blob, he]
    have he' : (err == 0) = false := by simp [he]
    go_enter Try.func68, Try.ntmps68
    go_wp2
    go_end0
    rw [hfin.out]
    exact ⟨rfl, hW0.out.drewN 0⟩

/-- what Out leaves: new memory with what was written; the writer as it was -/
def OutDone (S : Nat → Prop) (p : Nat) (s : WS) (w : World) (e : Ending) (w' : World) : Prop :=
  ∃ ao cap T, e = .returned (.tuple #[.slice ao s.xs.length cap, .int .i64 s.err]) ∧ Row w' 5 1 T (.slice ao s.xs.length cap) s.xs.length (s.xs.map byteV) ∧ Wr w' S p s ∧ Step (fun _ => False) T w w'

set_option maxHeartbeats 400000 in
theorem out_any (S : Nat → Prop) (p : Nat) (s : WS) (w : World) (hW : Wr w S p s) (hxs : s.xs.length ≤ 1000000000) :
    Calls Try.prog 69 #[.pointer (some ⟨p, 0, none⟩)] w (OutDone S p s w) := by
  have hW0 := Lib.hid hW
  obtain ⟨v, T, hb, hrow, hT, hS, hr0, hr1⟩ := hW
  obtain ⟨ao, cap, rfl, hc1, hc2, -⟩ := hrow.form
  have h1 := cell_of_block (i := 1) hb rfl
  have h2 := cell_of_block (i := 2) hb rfl
  have hp := lt_of_block hb
  have HB := Lib.hid hb
  have HR := Lib.hid hrow
  clear hb hrow hS
  go_enter Try.func69, Try.ntmps69
  go_wp2
  go_region_law (go_simp; go_at_call 75; refine (clone_any T ao s.xs cap w.drew HR.out.drew.view hxs).mono ?_; rintro e w1 ⟨ao1, cap1, T1, rfl, hr1, hs1⟩; have h2' : w1.cell? ⟨p, 2, none⟩ = some (.int .i64 s.err) := (World.cell?_of_block (w := w) (hs1.block p hp (fun h => h))).trans h2)
  all_goals
    have hg : Step (fun _ => False) T1 w w1 := ((Step.refl (fun _ => False) w).drew).trans hs1
    have HG := Lib.hid hg
    clear hg
    go_wp2
    go_ret2
    exact ⟨ao1, cap1, T1, rfl, hr1, hW0.out.keep HG.out (fun _ _ h => h), HG.out⟩

end Cod
end Go.Proofs.Ytmdphcebmgcdbaa

end
section
namespace Go.Proofs.Ytmdphcebmgcdbaa
open Go.RowKit Go.Own
namespace Cod

/-- a reader as plain data: the bytes that are left, its first error -/
structure RS where
  l : List UInt8
  err : Int

/-- what a reader is in memory -/
def Rd (w : World) (S : Nat → Prop) (p : Nat) (r : RS) : Prop :=
  ∃ ao cap D, w.heap[p]? = some (.cells #[.slice ao r.l.length cap, .int .i64 r.err] 166 (0, 0)) ∧ View w D ao r.l ∧ ¬ D p ∧ (∀ k, S k ↔ (k = p ∨ D k)) ∧ (∀ k, D k → k < w.heap.size) ∧
    r.l.length ≤ cap ∧ cap ≤ maxLen ∧ (ao = none → cap = 0) ∧ ∀ a, ao = some a → a.spot = none

theorem Rd.keep {w w' : World} {S T U : Nat → Prop} {p : Nat} {r : RS} (h : Rd w S p r) (g : Step T U w w') (hd : Dis S T) : Rd w' S p r := by
  obtain ⟨ao, cap, D, hb, hV, hD, hS, hl, rest⟩ := h
  exact ⟨ao, cap, D, (g.block p (lt_of_block hb) (hd p ((hS p).2 (.inl rfl)))).trans hb, hV.step g (fun k hk => hd k ((hS k).2 (.inr hk))), hD, hS, fun k hk => Nat.lt_of_lt_of_le (hl k hk) g.size, rest⟩

theorem Rd.lt {w : World} {S : Nat → Prop} {p : Nat} {r : RS} (h : Rd w S p r) : ∀ k, S k → k < w.heap.size := by
  obtain ⟨ao, cap, D, hb, hV, hD, hS, hl, rest⟩ := h
  intro k hk
  rcases (hS k).1 hk with rfl | h
  · exact lt_of_block hb
  · exact hl k h

/-- the reader is so, and only its blocks have turned -/
def RdTo (S : Nat → Prop) (p : Nat) (r : RS) (w w' : World) : Prop := Rd w' S p r ∧ Step S S w w'

theorem Rd.fault {w : World} {S : Nat → Prop} {p : Nat} {r : RS} (h : Rd w S p r) (n : Nat) (x : Int) : RdTo S p ⟨r.l, x⟩ w ((w.drewN n).setCell ⟨p, 1, none⟩ (.int .i64 x)) := by
  obtain ⟨ao, cap, D, hb, hV, hD, hS, hl, rest⟩ := h
  have g : Step (fun k => k = p) (fun k => k = p) w ((w.drewN n).setCell ⟨p, 1, none⟩ (.int .i64 x)) := ((Step.refl (fun k => k = p) w).drewN n).setCell (a := ⟨p, 1, none⟩) (Or.inl rfl) _
  refine ⟨⟨ao, cap, D, ?_, hV.step g (fun k h e => hD (e ▸ h)), hD, hS, fun k hk => Nat.lt_of_lt_of_le (hl k hk) g.size, rest⟩, ((Step.refl S w).drewN n).setCell (a := ⟨p, 1, none⟩) (Or.inl ((hS p).2 (.inl rfl))) _⟩
  have e : (w.drewN n).heap[p]? = some (.cells #[.slice ao r.l.length cap, .int .i64 r.err] 166 (0, 0)) := hb
  rw [block_setCell e]
  rfl

/-- what is left is set -/
theorem Rd.left {w : World} {S D : Nat → Prop} {p : Nat} {v : Value} {l : List UInt8} {err : Int} {ao : Option Addr} {cap : Nat}
    (hb : w.heap[p]? = some (.cells #[v, .int .i64 err] 166 (0, 0))) (hD : ¬ D p) (hS : ∀ k, S k ↔ (k = p ∨ D k)) (hl : ∀ k, D k → k < w.heap.size)
    (hV : View w D ao l) (h1 : l.length ≤ cap) (h2 : cap ≤ maxLen) (h3 : ao = none → cap = 0) (h4 : ∀ a, ao = some a → a.spot = none) :
    RdTo S p ⟨l, err⟩ w (w.setCell ⟨p, 0, none⟩ (.slice ao l.length cap)) := by
  have g : Step (fun k => k = p) (fun k => k = p) w (w.setCell ⟨p, 0, none⟩ (.slice ao l.length cap)) := (Step.refl (fun k => k = p) w).setCell (a := ⟨p, 0, none⟩) (Or.inl rfl) _
  refine ⟨⟨ao, cap, D, ?_, hV.step g (fun k h e => hD (e ▸ h)), hD, hS, fun k hk => Nat.lt_of_lt_of_le (hl k hk) g.size, h1, h2, h3, h4⟩, (Step.refl S w).setCell (a := ⟨p, 0, none⟩) (Or.inl ((hS p).2 (.inl rfl))) _⟩
  rw [block_setCell hb]
  rfl

theorem View.take {w : World} {D : Nat → Prop} {ao : Option Addr} {l : List UInt8} (h : View w D ao l) (n : Nat) : View w D ao (l.take n) := by
  rcases h with rfl | ⟨b, o, e, hS, hb, hc⟩
  · exact .inl (by simp)
  · refine .inr ⟨b, o, e, hS, hb, fun j hj => ?_⟩
    rw [List.length_take] at hj
    rw [hc j (by omega)]
    simp [List.getD, show j < n by omega]

theorem View.drop {w : World} {D : Nat → Prop} {b o : Nat} {l : List UInt8} (h : View w D (some ⟨b, o, none⟩) l) (n : Nat) : View w D (some ⟨b, o + n, none⟩) (l.drop n) := by
  rcases h with rfl | ⟨b', o', e, hS, hb, hc⟩
  · exact .inl (by simp)
  · cases e
    refine .inr ⟨b, o + n, rfl, hS, hb, fun j hj => ?_⟩
    rw [List.length_drop] at hj
    have := hc (n + j) (by omega)
    rw [Nat.add_assoc, this]
    simp [List.getD]

/-- what a take leaves: the first bytes as a part of the reader's own -/
def TakeDone (S : Nat → Prop) (p : Nat) (r : RS) (n : Nat) (w : World) (e : Ending) (w' : World) : Prop :=
  ∃ ao cap D, e = .returned (.slice ao n cap) ∧ View w' D ao (r.l.take n) ∧ (∀ k, D k → S k) ∧ RdTo S p ⟨r.l.drop n, r.err⟩ w w'

set_option maxHeartbeats 400000 in
theorem take_any (S : Nat → Prop) (p : Nat) (r : RS) (n : Nat) (w : World) (hR : Rd w S p r) (hn : n ≤ r.l.length) :
    Calls Try.prog 78 #[.pointer (some ⟨p, 0, none⟩), .int .i64 n] w (TakeDone S p r n w) := by
  obtain ⟨ao, cap, D, hb, hV, hD, hS, hlt, hlc, hm, hnone, hspot⟩ := hR
  obtain ⟨l, err⟩ := r
  simp only at hb hV hn hlc
  have h0 := cell_of_block (i := 0) hb rfl
  have f0 := frozen_of_block (i := 0) hb
  unfold maxLen at hm
  cases ao with
  | none =>
    obtain rfl := hnone rfl
    obtain rfl : l = [] := List.eq_nil_of_length_eq_zero (by omega)
    obtain rfl : n = 0 := by simpa using hn
    have key : TakeDone S p ⟨[], err⟩ 0 w (.returned (.slice none 0 0)) (w.setCell ⟨p, 0, none⟩ (.slice none 0 0)) :=
      ⟨none, 0, D, rfl, .inl (by simp), fun k hk => (hS k).2 (.inr hk), Rd.left (ao := none) (l := []) hb hD hS hlt hV (by simp) (by simp [maxLen]) (fun _ => rfl) (fun a h => by cases h)⟩
    have K := Lib.hid key
    clear key hb hV hD hS hlt
    simp only [List.length_nil] at h0
    go_enter Try.func78, Try.ntmps78
    go_wp2
    go_ret
    exact K.out
  | some a =>
    obtain ⟨b, o, sp⟩ := a
    obtain rfl : sp = none := hspot _ rfl
    obtain ⟨len, hlen⟩ : ∃ len, len = l.length := ⟨_, rfl⟩
    have key1 : cap = n → TakeDone S p ⟨l, err⟩ n w (.returned (.slice (some ⟨b, o, none⟩) n n)) (w.setCell ⟨p, 0, none⟩ (.slice (some ⟨b, o, none⟩) (len - n) 0)) := by
      intro hc
      have e : l.drop n = [] := List.drop_eq_nil_of_le (by omega)
      have e2 : len - n = 0 := by omega
      refine ⟨some ⟨b, o, none⟩, n, D, rfl, (View.take hV n).step (T := fun k => k = p) (U := fun k => k = p) ((Step.refl (fun k => k = p) w).setCell (a := ⟨p, 0, none⟩) (Or.inl rfl) _) (fun k h e => hD (e ▸ h)), fun k hk => (hS k).2 (.inr hk), ?_⟩
      rw [e, e2]
      exact Rd.left (ao := some ⟨b, o, none⟩) (l := []) hb hD hS hlt (.inl rfl) (by simp) (by simp [maxLen]) (fun h => by cases h) (fun a h => by cases h; rfl)
    have key2 : TakeDone S p ⟨l, err⟩ n w (.returned (.slice (some ⟨b, o, none⟩) n cap)) (w.setCell ⟨p, 0, none⟩ (.slice (some ⟨b, o + n, none⟩) (len - n) (cap - n))) := by
      refine ⟨some ⟨b, o, none⟩, cap, D, rfl, (View.take hV n).step (T := fun k => k = p) (U := fun k => k = p) ((Step.refl (fun k => k = p) w).setCell (a := ⟨p, 0, none⟩) (Or.inl rfl) _) (fun k h e => hD (e ▸ h)), fun k hk => (hS k).2 (.inr hk), ?_⟩
      have e : len - n = (l.drop n).length := by rw [List.length_drop]; omega
      rw [e]
      exact Rd.left (ao := some ⟨b, o + n, none⟩) (l := l.drop n) hb hD hS hlt (View.drop hV n) (by rw [List.length_drop]; omega) (by unfold maxLen; omega) (fun h => by cases h) (fun a h => by cases h; rfl)
    have K1 := Lib.hid key1
    have K2 := Lib.hid key2
    rw [← hlen] at h0 hn hlc
    clear key1 key2 hb hV hD hS hlt hlen hnone hspot
    go_enter Try.func78, Try.ntmps78
    go_wp2
    all_goals go_ret
    · exact K1.out (by omega)
    · exact K2.out

/-- bytes as a number, the least significant one first -/
def num : List UInt8 → Nat
  | [] => 0
  | c :: r => c.toNat + 256 * num r

theorem num_snoc (l : List UInt8) (c : UInt8) : num (l ++ [c]) = num l + 2 ^ (8 * l.length) * c.toNat := by
  induction l with
  | nil => simp [num]
  | cons d r ih =>
    have e : 2 ^ (8 * (r.length + 1)) = 256 * 2 ^ (8 * r.length) := by rw [Nat.mul_add, Nat.pow_add]; simp [Nat.mul_comm]
    rw [List.cons_append, num, ih, num, List.length_cons, e, Nat.mul_add, Nat.mul_assoc]
    omega

theorem or_shift (m k : Nat) (c : UInt8) (hk : k < 8) (hm : m < 2 ^ (8 * k)) :
    bits .or .u64 (m : Int) (IntKind.u64.wrap (IntKind.u64.wrap (c.toNat : Int) * 2 ^ (8 * k))) = ((m + 2 ^ (8 * k) * c.toNat : Nat) : Int) := by
  have hc := c.toNat_lt
  have hp : (2 : Nat) ^ (8 * k) ≤ 2 ^ 56 := Nat.pow_le_pow_right (by omega) (by omega)
  have hlt : 2 ^ (8 * k) * c.toNat < 2 ^ 64 := Nat.lt_of_le_of_lt (Nat.mul_le_mul hp (show c.toNat ≤ 255 by omega)) (by decide)
  have e1 : IntKind.u64.wrap (c.toNat : Int) = (c.toNat : Int) := IntWalk.u64_in _ (by omega)
  have e2 : (c.toNat : Int) * 2 ^ (8 * k) = ((2 ^ (8 * k) * c.toNat : Nat) : Int) := by simp [Int.mul_comm]
  have e3 : IntKind.u64.wrap ((2 ^ (8 * k) * c.toNat : Nat) : Int) = ((2 ^ (8 * k) * c.toNat : Nat) : Int) := IntWalk.u64_in _ (by omega)
  rw [e1, e2, e3, bits_or_u64_nat _ _ (by omega) (by omega), Nat.or_comm, ← Nat.two_pow_add_eq_or_of_lt hm]
  rw [Nat.add_comm]

theorem num_lt (l : List UInt8) : num l < 2 ^ (8 * l.length) := by
  induction l with
  | nil => simp [num]
  | cons d r ih =>
    have e : 2 ^ (8 * (r.length + 1)) = 256 * 2 ^ (8 * r.length) := by rw [Nat.mul_add, Nat.pow_add]; simp [Nat.mul_comm]
    have := d.toNat_lt
    simp only [num, List.length_cons, e]
    omega

set_option maxHeartbeats 400000 in
theorem number_any (D : Nat → Prop) (ao : Option Addr) (l : List UInt8) (cap : Nat) (w : World) (hV : View w D ao l) (hl : l.length ≤ 8) :
    Calls Try.prog 77 #[.slice ao l.length cap] w fun e w' => e = .returned (.int .u64 (num l)) ∧ w = w' := by
  obtain ⟨len, hlen⟩ : ∃ len, len = l.length := ⟨_, rfl⟩
  rw [← hlen]
  rw [← hlen] at hl
  have HL := Lib.hid hlen
  clear hlen
  go_enter Try.func77, Try.ntmps77
  go_wp2
  go_loop [3, 4, 7] (fun n _ i => ∃ k : Nat, k ≤ len ∧ i = .int .i64 k ∧ n = .int .u64 (num (l.take k))) (fun _ _ i => len - (intOf i).toNat)
  case atStart => exact ⟨0, Nat.zero_le _, rfl, rfl⟩
  case round =>
    obtain ⟨k, hk, rfl, rfl⟩ := hrel
    by_cases hlt : k < len
    · obtain ⟨b, o, rfl, hbD, hbw, hc⟩ : ∃ b o, ao = some ⟨b, o, none⟩ ∧ D b ∧ b < w.heap.size ∧ ∀ j, j < l.length → w.cell? ⟨b, o + j, none⟩ = some (.int .u8 ((l.getD j 0).toNat : Int)) := by
        rcases hV with h | h
        · have := HL.out; rw [h] at this; simp at this; omega
        · exact h
      obtain ⟨c, hcd⟩ : ∃ c, c = l.getD k 0 := ⟨_, rfl⟩
      have hcx : w.cell? ⟨b, o + k, none⟩ = some (.int .u8 (c.toNat : Int)) := by rw [hcd]; exact hc k (by rw [← HL.out]; exact hlt)
      have hsn : l.take (k + 1) = l.take k ++ [c] := by
        rw [List.take_succ_eq_append_getElem (by rw [← HL.out]; exact hlt), hcd]
        simp [show k < l.length by rw [← HL.out]; exact hlt]
      have HC := Lib.hid hsn
      have hk8 : IntKind.i64.wrap (8 * (k : Int)) = 8 * (k : Int) := IntWalk.i64_in _ (by omega)
      have hk0 : (0 : Int) ≤ 8 * (k : Int) := by omega
      clear hcd hsn hc hbD hbw hV
      obtain ⟨m, hm⟩ : ∃ m, m = num (l.take k) := ⟨_, rfl⟩
      rw [← hm]
      have HM := Lib.hid hm
      have hm2 : m < 2 ^ (8 * k) := by
        have := num_lt (l.take k)
        rw [List.length_take, Nat.min_eq_left (by rw [← HL.out]; omega), ← hm] at this
        exact this
      have hor := or_shift m k c (by omega) hm2
      clear hm hm2
      obtain ⟨q, hq⟩ : ∃ q : Nat, q = m + 2 ^ (8 * k) * c.toNat := ⟨_, rfl⟩
      rw [← hq] at hor
      have HQ := Lib.hid hq
      clear hq
      go_wp2
      go_round
      case rel =>
        refine ⟨k + 1, by omega, by go_num, ?_⟩
        rw [HC.out, num_snoc, ← HM.out, List.length_take, Nat.min_eq_left (by rw [← HL.out]; omega), ← HQ.out]
      case measure => simp [intOf]; omega
    · have hkl : l.take k = l := List.take_of_length_le (by rw [← HL.out]; omega)
      have HK := Lib.hid hkl
      clear hkl
      go_wp2
      go_ret
      exact ⟨by rw [HK.out]; rfl, rfl⟩

end Cod
end Go.Proofs.Ytmdphcebmgcdbaa

end
section
namespace Go.Proofs.Ytmdphcebmgcdbaa
open Go.RowKit Go.Own
namespace Cod

def RS.num (r : RS) (many : Int) : Nat × RS :=
  if r.err ≠ 0 then (0, r) else if many < 0 ∨ 8 < many then (0, ⟨r.l, 1⟩) else if (r.l.length : Int) < many then (0, ⟨r.l, 10⟩) else (Cod.num (r.l.take many.toNat), ⟨r.l.drop many.toNat, 0⟩)
def RS.raw (r : RS) (n : Int) : List UInt8 × RS :=
  if r.err ≠ 0 then ([], r) else if n < 0 then ([], ⟨r.l, 1⟩) else if (r.l.length : Int) < n then ([], ⟨r.l, 10⟩) else (r.l.take n.toNat, ⟨r.l.drop n.toNat, 0⟩)
def blobSz (l : List UInt8) (most : Int) : Nat × Int :=
  if l.length < 2 then (0, 10) else if max most 0 < (Cod.num (l.take 2) : Int) then (0, 4) else if l.length - 2 < Cod.num (l.take 2) then (0, 10) else (Cod.num (l.take 2), 0)
def RS.blob (r : RS) (most : Int) : List UInt8 × RS :=
  if r.err ≠ 0 then ([], r) else if (blobSz r.l most).2 ≠ 0 then ([], ⟨r.l, (blobSz r.l most).2⟩) else ((r.l.drop 2).take (blobSz r.l most).1, ⟨(r.l.drop 2).drop (blobSz r.l most).1, 0⟩)
def RS.fin (r : RS) : Int := if r.err = 0 ∧ r.l ≠ [] then 11 else r.err

def NewRDone (l : List UInt8) (w : World) (e : Ending) (w' : World) : Prop :=
  ∃ p S, e = .returned (.pointer (some ⟨p, 0, none⟩)) ∧ Rd w' S p ⟨l, 0⟩ ∧ Step (fun _ => False) S w w'

theorem newReader_any (D : Nat → Prop) (ao : Option Addr) (l : List UInt8) (cap : Nat) (w : World) (hV : View w D ao l) (hl : l.length ≤ 1000000000) :
    Calls Try.prog 58 #[.slice ao l.length cap] w (NewRDone l w) := by
  go_enter Try.func58, Try.ntmps58
  go_wp2_with (fail)
  refine (clone_any D ao l cap w hV hl).mono ?_
  rintro e w1 ⟨ao1, cap1, T, rfl, hr, hs⟩
  go_wp2
  go_ret
  obtain ⟨ao', cap', hv, h1, h2, h3, h4⟩ := hr.form
  simp only [Value.slice.injEq, true_and] at hv
  obtain ⟨rfl, rfl⟩ := hv
  have g : Step T (fun k => k = w1.heap.size ∨ T k) w1 (w1.alloc (.cells #[.slice ao1 l.length cap1, .int .i64 0] 166)) := ((Step.refl T w1).alloc _).to (fun k hk => hk.elim (fun e => .inr (Nat.le_of_eq e.symm)) .inl)
  refine ⟨w1.heap.size, fun k => k = w1.heap.size ∨ T k, rfl, ⟨ao1, cap1, T, heap_alloc_new w1 _, hr.view.step ((Step.refl (fun _ => False) w1).alloc _) (fun _ _ h => h), fun h => by have := hr.lt _ h; omega, fun k => Iff.rfl, fun k hk => by have := hr.lt k hk; simp; omega, h1, h2, fun h => (h3 h).2.1, fun a h => by obtain ⟨g, rfl, _⟩ := h4 a h; rfl⟩, hs.trans g⟩

theorem end_any (S : Nat → Prop) (p : Nat) (r : RS) (w : World) (hR : Rd w S p r) :
    Calls Try.prog 60 #[.pointer (some ⟨p, 0, none⟩)] w fun e w' => e = .returned (.int .i64 r.fin) ∧ w = w' := by
  obtain ⟨ao, cap, D, hb, hV, hD, hS, hlt, hlc, hm, hnone, hspot⟩ := hR
  obtain ⟨l, err⟩ := r
  have h0 := cell_of_block (i := 0) hb rfl
  have h1 := cell_of_block (i := 1) hb rfl
  clear hb hV hD hS hlt
  simp only at h0 h1
  obtain ⟨n, hn⟩ : ∃ n, n = l.length := ⟨_, rfl⟩
  rw [← hn] at h0
  by_cases he : err = 0
  · subst he
    by_cases hz : n = 0
    · have hfin : RS.fin ⟨l, 0⟩ = 0 := by
        have : l = [] := List.eq_nil_of_length_eq_zero (by omega)
        simp [RS.fin, this]
      rw [hfin]
      subst hz
      clear hn hfin
      go_enter Try.func60, Try.ntmps60
      go_wp2
      go_ret
      exact ⟨rfl, rfl⟩
    · have hfin : RS.fin ⟨l, 0⟩ = 11 := by
        have : l ≠ [] := by rintro rfl; simp at hn; omega
        simp [RS.fin, this]
      rw [hfin]
      have hz' : 0 < n := by omega
      clear hn hfin
      go_enter Try.func60, Try.ntmps60
      go_wp2
      go_ret
      exact ⟨rfl, rfl⟩
  · have hfin : RS.fin ⟨l, err⟩ = err := by simp [RS.fin, he]
    rw [hfin]
    have he' : (err == 0) = false := by simp [he]
    clear hn hfin
    go_enter Try.func60, Try.ntmps60
    go_wp2
    go_ret
    exact ⟨rfl, rfl⟩

def NumRDone (S : Nat → Prop) (p : Nat) (x : Nat × RS) (w : World) (e : Ending) (w' : World) : Prop := e = .returned (.int .u64 x.1) ∧ RdTo S p x.2 w w'

theorem Rd.same {w : World} {S : Nat → Prop} {p : Nat} {r : RS} (h : Rd w S p r) : RdTo S p r w w := ⟨h, Step.refl S w⟩

set_option maxHeartbeats 400000 in
theorem rnum_any (S : Nat → Prop) (p : Nat) (r : RS) (many : Int) (w : World) (hR : Rd w S p r) (hl : r.l.length ≤ 1000000000) :
    Calls Try.prog 59 #[.pointer (some ⟨p, 0, none⟩), .int .i64 many] w (NumRDone S p (r.num many) w) := by
  have hR0 := Lib.hid hR
  obtain ⟨ao, cap, D, hb, hV, hD, hS, hlt, hlc, hm, hnone, hspot⟩ := hR
  obtain ⟨l, err⟩ := r
  have h0 := cell_of_block (i := 0) hb rfl
  have h1 := cell_of_block (i := 1) hb rfl
  have f1 := frozen_of_block (i := 1) hb
  clear hb hV hD hS hlt hlc hm hnone hspot
  simp only at h0 h1 hl
  by_cases he : err = 0
  · subst he
    by_cases hbad : many < 0 ∨ 8 < many
    · have hfin : Hid (RS.num ⟨l, 0⟩ many = (0, ⟨l, 1⟩)) := by simp [Hid, RS.num, hbad]
      by_cases hneg : many < 0
      · go_enter Try.func59, Try.ntmps59
        go_wp2
        go_ret
        rw [hfin.out]
        exact ⟨rfl, hR0.out.fault 0 1⟩
      · have hbig : 8 < many := by omega
        go_enter Try.func59, Try.ntmps59
        go_wp2
        go_ret
        rw [hfin.out]
        exact ⟨rfl, hR0.out.fault 0 1⟩
    · obtain ⟨k, rfl⟩ := Int.eq_ofNat_of_zero_le (show 0 ≤ many by omega)
      have hk8 : k ≤ 8 := by omega
      by_cases hs : (l.length : Int) < k
      · have hfin : Hid (RS.num ⟨l, 0⟩ k = (0, ⟨l, 10⟩)) := by
          simp only [Hid, RS.num]
          rw [if_neg (by simp), if_neg hbad, if_pos hs]
        go_enter Try.func59, Try.ntmps59
        go_wp2
        go_ret
        rw [hfin.out]
        exact ⟨rfl, hR0.out.fault 0 10⟩
      · have hfin : Hid (RS.num ⟨l, 0⟩ k = (Cod.num (l.take k), ⟨l.drop k, 0⟩)) := by
          simp only [Hid, RS.num]
          rw [if_neg (by simp), if_neg hbad, if_neg hs, Int.toNat_natCast]
        go_enter Try.func59, Try.ntmps59
        go_wp2_with (fail)
        refine (take_any S p ⟨l, 0⟩ k w hR0.out (by simp; omega)).mono ?_
        rintro e w1 ⟨ao1, cap1, D1, rfl, hV1, hD1, hR1⟩
        have HV1 := Lib.hid hV1
        have HR1 := Lib.hid hR1
        clear hV1 hR1
        go_wp2_with (fail)
        have hlen : (l.take k).length = k := by rw [List.length_take]; omega
        have hnum := number_any D1 ao1 (l.take k) cap1 w1 HV1.out (by omega)
        rw [hlen] at hnum
        refine hnum.mono ?_
        rintro e w2 ⟨rfl, rfl⟩
        clear hnum hlen
        go_wp2
        go_ret
        rw [hfin.out]
        exact ⟨rfl, HR1.out⟩
  · have hfin : Hid (RS.num ⟨l, err⟩ many = (0, ⟨l, err⟩)) := by simp [Hid, RS.num, he]
    have he' : (err == 0) = false := by simp [he]
    go_enter Try.func59, Try.ntmps59
    go_wp2
    go_ret
    rw [hfin.out]
    exact ⟨rfl, hR0.out.same⟩

end Cod
end Go.Proofs.Ytmdphcebmgcdbaa

end
section
namespace Go.Proofs.Ytmdphcebmgcdbaa
open Go.RowKit Go.Own
namespace Cod

/-- what a call leaves that answers bytes of a reader: the reader is so, the bytes are new memory -/
def RawDone (S : Nat → Prop) (p : Nat) (x : List UInt8 × RS) (w : World) (e : Ending) (w' : World) : Prop :=
  ∃ ao cap T, e = .returned (.slice ao x.1.length cap) ∧ Row w' 5 1 T (.slice ao x.1.length cap) x.1.length (x.1.map byteV) ∧ Rd w' S p x.2 ∧ Step S S w w' ∧ ∀ k, T k → w.heap.size ≤ k

theorem RawDone.empty {S : Nat → Prop} {p : Nat} {r : RS} {w w' : World} (h : RdTo S p r w w') : RawDone S p ([], r) w (.returned (.slice none 0 0)) w' :=
  ⟨none, 0, fun _ => False, rfl, Row.nil _ _ _, h.1, h.2, fun _ h => h.elim⟩

theorem RawDone.mk' {S T : Nat → Prop} {p : Nat} {r : RS} {l : List UInt8} {n : Nat} {w w1 w2 : World} {ao : Option Addr} {cap : Nat} (hn : l.length = n) (h : RdTo S p r w w1) (hr : Row w2 5 1 T (.slice ao n cap) n (l.map byteV)) (hs : Step (fun _ => False) T w1 w2) :
    RawDone S p (l, r) w (.returned (.slice ao n cap)) w2 := by
  subst hn
  refine ⟨ao, cap, T, rfl, hr, h.1.keep hs (fun _ _ h => h), ?_, fun k hk => (hs.new k hk).elim (fun h => h.elim) (fun g => Nat.le_trans h.2.size g)⟩
  have g := h.2
  exact ⟨hs.os.trans g.os, hs.tape.trans g.tape, hs.output.trans g.output, Nat.le_trans g.size hs.size, fun k hk hS => (hs.block k (by have := g.size; omega) (fun h => h)).trans (g.block k hk hS), fun k hk => .inl hk⟩

set_option maxHeartbeats 400000 in
theorem rraw_any (S : Nat → Prop) (p : Nat) (r : RS) (n : Int) (w : World) (hR : Rd w S p r) (hl : r.l.length ≤ 1000000000) :
    Calls Try.prog 79 #[.pointer (some ⟨p, 0, none⟩), .int .i64 n] w (RawDone S p (r.raw n) w) := by
  have hR0 := Lib.hid hR
  obtain ⟨ao, cap, D, hb, hV, hD, hS, hlt, hlc, hm, hnone, hspot⟩ := hR
  obtain ⟨l, err⟩ := r
  have h0 := cell_of_block (i := 0) hb rfl
  have h1 := cell_of_block (i := 1) hb rfl
  have f1 := frozen_of_block (i := 1) hb
  clear hb hV hD hS hlt hlc hm hnone hspot
  simp only at h0 h1 hl
  by_cases he : err = 0
  · subst he
    by_cases hneg : n < 0
    · have hfin : Hid (RS.raw ⟨l, 0⟩ n = ([], ⟨l, 1⟩)) := by simp [Hid, RS.raw, hneg]
      go_enter Try.func79, Try.ntmps79
      go_wp2
      go_ret
      rw [hfin.out]
      exact RawDone.empty (hR0.out.fault 0 1)
    · obtain ⟨k, rfl⟩ := Int.eq_ofNat_of_zero_le (show 0 ≤ n by omega)
      by_cases hs : (l.length : Int) < k
      · have hfin : Hid (RS.raw ⟨l, 0⟩ k = ([], ⟨l, 10⟩)) := by
          simp only [Hid, RS.raw]
          rw [if_neg (by simp), if_neg hneg, if_pos hs]
        go_enter Try.func79, Try.ntmps79
        go_wp2
        go_ret
        rw [hfin.out]
        exact RawDone.empty (hR0.out.fault 0 10)
      · have hfin : Hid (RS.raw ⟨l, 0⟩ k = (l.take k, ⟨l.drop k, 0⟩)) := by
          simp only [Hid, RS.raw]
          rw [if_neg (by simp), if_neg hneg, if_neg hs, Int.toNat_natCast]
        go_enter Try.func79, Try.ntmps79
        go_wp2_with (fail)
        refine (take_any S p ⟨l, 0⟩ k w hR0.out (by simp; omega)).mono ?_
        rintro e w1 ⟨ao1, cap1, D1, rfl, hV1, hD1, hR1⟩
        have HV1 := Lib.hid hV1
        have HR1 := Lib.hid hR1
        clear hV1 hR1
        go_wp2_with (fail)
        have hlen : (l.take k).length = k := by rw [List.length_take]; omega
        have hcl := clone_any D1 ao1 (l.take k) cap1 w1 HV1.out (by omega)
        unfold CloneDone at hcl
        rw [hlen] at hcl
        have HL := Lib.hid hlen
        refine hcl.mono ?_
        rintro e w2 ⟨ao2, cap2, T2, rfl, hr2, hs2⟩
        have HR2 := Lib.hid hr2
        clear hcl hr2 hlen
        go_wp2
        go_ret
        rw [hfin.out]
        exact RawDone.mk' HL.out HR1.out HR2.out hs2
  · have hfin : Hid (RS.raw ⟨l, err⟩ n = ([], ⟨l, err⟩)) := by simp [Hid, RS.raw, he]
    have he' : (err == 0) = false := by simp [he]
    go_enter Try.func79, Try.ntmps79
    go_wp2
    go_ret
    rw [hfin.out]
    exact RawDone.empty hR0.out.same

set_option maxHeartbeats 400000 in
theorem blobSize_any (D : Nat → Prop) (ao : Option Addr) (l : List UInt8) (cap : Nat) (most : Int) (w : World) (hV : View w D ao l) (hl : l.length ≤ 1000000000) (hc : l.length ≤ cap) (hm : cap ≤ maxLen) (hmost : most ≤ 9223372036854775807) :
    Calls Try.prog 89 #[.slice ao l.length cap, .int .i64 most] w fun e w' => e = .returned (.tuple #[.int .i64 (blobSz l most).1, .int .i64 (blobSz l most).2]) ∧ w = w' := by
  unfold maxLen at hm
  by_cases h2 : l.length < 2
  · have hfin : Hid (blobSz l most = (0, 10)) := by simp [Hid, blobSz, h2]
    go_enter Try.func89, Try.ntmps89
    go_wp2
    go_ret2
    rw [hfin.out]
    exact ⟨rfl, rfl⟩
  · obtain ⟨b, o, rfl⟩ : ∃ b o, ao = some ⟨b, o, none⟩ := by
      rcases hV with rfl | ⟨b, o, h, _⟩
      · simp at h2
      · exact ⟨b, o, h⟩
    obtain ⟨m, hm0⟩ : ∃ m, m = num (l.take 2) := ⟨_, rfl⟩
    have hm1 : m < 65536 := by have := num_lt (l.take 2); rw [List.length_take, Nat.min_eq_left (by omega), ← hm0] at this; exact this
    have hlen : (l.take 2).length = 2 := by rw [List.length_take]; omega
    have hnum : ∀ wx cx, View wx D (some ⟨b, o, none⟩) l → Calls Try.prog 77 #[.slice (some ⟨b, o, none⟩) 2 cx] wx fun e w' => e = .returned (.int .u64 m) ∧ wx = w' := by
      intro wx cx hv
      have := number_any D (some ⟨b, o, none⟩) (l.take 2) cx wx (View.take hv 2) (by omega)
      rw [hlen, ← hm0] at this
      exact this
    have HN := Lib.hid hnum
    have HV := Lib.hid hV
    have HM := Lib.hid hm0
    clear hnum hV hm0 hlen
    by_cases h3 : max most 0 < (m : Int)
    · have hfin : Hid (blobSz l most = (0, 4)) := by
        simp only [Hid, blobSz]
        rw [if_neg h2, ← HM.out, if_pos h3]
      go_enter Try.func89, Try.ntmps89
      go_wp2_with (fail)
      refine (HN.out _ _ HV.out).mono ?_
      rintro e w1 ⟨rfl, rfl⟩
      go_wp2
      all_goals go_ret2
      all_goals rw [hfin.out]
      all_goals exact ⟨rfl, rfl⟩
    · by_cases h4 : l.length - 2 < m
      · have hfin : Hid (blobSz l most = (0, 10)) := by
          simp only [Hid, blobSz]
          rw [if_neg h2, ← HM.out, if_neg h3, if_pos h4]
        go_enter Try.func89, Try.ntmps89
        go_wp2_with (fail)
        refine (HN.out _ _ HV.out).mono ?_
        rintro e w1 ⟨rfl, rfl⟩
        go_wp2
        all_goals go_ret2
        all_goals rw [hfin.out]
        all_goals exact ⟨rfl, rfl⟩
      · have hfin : Hid (blobSz l most = (m, 0)) := by
          simp only [Hid, blobSz]
          rw [if_neg h2, ← HM.out, if_neg h3, if_neg h4]
        go_enter Try.func89, Try.ntmps89
        go_wp2_with (fail)
        refine (HN.out _ _ HV.out).mono ?_
        rintro e w1 ⟨rfl, rfl⟩
        go_wp2
        all_goals go_ret2
        all_goals rw [hfin.out]
        all_goals exact ⟨rfl, rfl⟩

set_option maxHeartbeats 800000 in
theorem rblob_any (S : Nat → Prop) (p : Nat) (r : RS) (most : Int) (w : World) (hR : Rd w S p r) (hl : r.l.length ≤ 1000000000) (hmost : most ≤ 9223372036854775807) :
    Calls Try.prog 80 #[.pointer (some ⟨p, 0, none⟩), .int .i64 most] w (RawDone S p (r.blob most) w) := by
  have hR0 := Lib.hid hR
  obtain ⟨ao, cap, D, hb, hV, hD, hS, hlt, hlc, hm, hnone, hspot⟩ := hR
  obtain ⟨l, err⟩ := r
  have h0 := cell_of_block (i := 0) hb rfl
  have h1 := cell_of_block (i := 1) hb rfl
  have f1 := frozen_of_block (i := 1) hb
  simp only at h0 h1 hl hlc hV
  have hsz := Lib.hid (blobSize_any D ao l cap most w hV hl hlc hm hmost)
  clear hb hV hD hS hlt hlc hm hnone hspot
  by_cases he : err = 0
  · subst he
    obtain ⟨sz, er, hbs⟩ : ∃ sz er, blobSz l most = (sz, er) := ⟨_, _, rfl⟩
    by_cases hz : er = 0
    · subst hz
      have hfin : Hid (RS.blob ⟨l, 0⟩ most = ((l.drop 2).take sz, ⟨(l.drop 2).drop sz, 0⟩)) := by
        simp only [Hid, RS.blob, hbs]
        rw [if_neg (by simp), if_neg (by simp)]
      have hb2 : 2 ≤ l.length ∧ sz ≤ (l.drop 2).length := by
        rw [List.length_drop]
        unfold blobSz at hbs
        split at hbs
        · simp at hbs
        · split at hbs
          · simp at hbs
          · split at hbs
            · simp at hbs
            · simp at hbs; omega
      have HB := Lib.hid hbs
      have HB2 := Lib.hid hb2
      clear hbs hb2
      go_enter Try.func80, Try.ntmps80
      go_wp2_with (fail)
      refine hsz.out.mono ?_
      rintro e w1 ⟨rfl, rfl⟩
      rw [HB.out]
      go_wp2_with (fail)
      refine (take_any S p ⟨l, 0⟩ 2 w hR0.out (by have := HB2.out.1; simpa using this)).mono ?_
      rintro e w1 ⟨ao1, cap1, D1, rfl, hV1, hD1, hR1⟩
      have HR1 := Lib.hid hR1
      clear hV1 hR1
      go_wp2_with (fail)
      refine (take_any S p ⟨l.drop 2, 0⟩ sz w1 HR1.out.1 HB2.out.2).mono ?_
      rintro e w2 ⟨ao2, cap2, D2, rfl, hV2, hD2, hR2⟩
      have HV2 := Lib.hid hV2
      have HR2 := Lib.hid hR2
      clear hV2 hR2
      go_wp2_with (fail)
      have hlen : ((l.drop 2).take sz).length = sz := by rw [List.length_take]; have := HB2.out.2; omega
      have hcl := clone_any D2 ao2 ((l.drop 2).take sz) cap2 w2 HV2.out (by have := HB2.out.2; rw [List.length_drop] at this; omega)
      unfold CloneDone at hcl
      rw [hlen] at hcl
      have HL := Lib.hid hlen
      refine hcl.mono ?_
      rintro e w3 ⟨ao3, cap3, T3, rfl, hr3, hs3⟩
      have HR3 := Lib.hid hr3
      clear hcl hr3 hlen
      go_wp2
      go_ret
      rw [hfin.out]
      exact RawDone.mk' HL.out ⟨HR2.out.1, HR1.out.2.trans HR2.out.2⟩ HR3.out hs3
    · have hfin : Hid (RS.blob ⟨l, 0⟩ most = ([], ⟨l, er⟩)) := by
        simp only [Hid, RS.blob, hbs]
        rw [if_neg (by simp), if_pos hz]
      have HB := Lib.hid hbs
      clear hbs
      go_enter Try.func80, Try.ntmps80
      go_wp2_with (fail)
      refine hsz.out.mono ?_
      rintro e w1 ⟨rfl, rfl⟩
      rw [HB.out]
      go_wp2
      go_ret
      rw [hfin.out]
      exact RawDone.empty (hR0.out.fault 0 er)
  · have hfin : Hid (RS.blob ⟨l, err⟩ most = ([], ⟨l, err⟩)) := by simp [Hid, RS.blob, he]
    have he' : (err == 0) = false := by simp [he]
    go_enter Try.func80, Try.ntmps80
    go_wp2
    go_ret
    rw [hfin.out]
    exact RawDone.empty hR0.out.same

end Cod
end Go.Proofs.Ytmdphcebmgcdbaa

end
section
namespace Go.Proofs.Ytmdphcebmgcdbaa
open Go.RowKit Go.Own
namespace Cod

/-- a writer, a reader as objects -/
def AW (p : Nat) (s : WS) : Asn where
  holds S w := Wr w S p s
  keep h g hd := h.keep g hd
  lt h := h.lt
def AR (p : Nat) (r : RS) : Asn where
  holds S w := Rd w S p r
  keep h g hd := h.keep g hd
  lt h := h.lt
/-- a slice of bytes of one's own -/
def AB (ao : Option Addr) (n cap : Nat) (l : List UInt8) : Asn := ARow 5 1 (.slice ao n cap) n (l.map byteV)

theorem AB.view {w : World} {S : Nat → Prop} {ao : Option Addr} {n cap : Nat} {l : List UInt8} (h : (AB ao n cap l).holds S w) : View w S ao l := Row.view h
theorem AB.len {w : World} {S : Nat → Prop} {ao : Option Addr} {n cap : Nat} {l : List UInt8} (h : (AB ao n cap l).holds S w) : l.length = n ∧ n ≤ cap ∧ cap ≤ maxLen := by
  obtain ⟨ao', cap', hv, h1, h2, _⟩ := Row.form h
  simp only [Value.slice.injEq, true_and] at hv
  obtain ⟨rfl, rfl⟩ := hv
  exact ⟨by have := h.own.1; simpa using this, h1, h2⟩

section
variable {B : Nat} {w0 w : World} {Ps : List Asn} {p : Nat} {s : WS} {r : RS}

theorem newWriter_st (H : St B w0 w Ps) (room : Int) (h1 : room ≤ 9223372036854775807) :
    Calls Try.prog 64 #[.int .i64 room] w fun e w' => ∃ p, e = .returned (.pointer (some ⟨p, 0, none⟩)) ∧ St B w0 w' (AW p ⟨max room 0, [], 0⟩ :: Ps) := by
  refine (newWriter_any room w h1).mono ?_
  rintro e w' ⟨p, S, he, hW, hs⟩
  exact ⟨p, he, H.new (AW p _) hW hs⟩

theorem num_st (H : St B w0 w Ps) (i : Nat) (hi : Ps[i]? = some (AW p s)) (n : Nat) (many : Int) (hxs : s.xs.length ≤ 100000000) :
    Calls Try.prog 65 #[.pointer (some ⟨p, 0, none⟩), .int .u64 n, .int .i64 many] w fun e w' => e = .returned (.tuple #[]) ∧ St B w0 w' (Ps.set i (AW p (s.num n many))) := by
  obtain ⟨S, hS, _, put⟩ := H.at i hi
  refine (num_any S p s n many w hS hxs).mono ?_
  rintro e w' ⟨he, S', hW, hs⟩
  exact ⟨he, put S' w' (AW p _) hW hs⟩

theorem raw_st (H : St B w0 w Ps) (i : Nat) (hi : Ps[i]? = some (AW p s)) {ao : Option Addr} {bs : List UInt8} (cap : Nat) (hV : View w (fun k => k < B) ao bs) (hbs : bs.length ≤ 100000000) (hxs : s.xs.length ≤ 100000000) :
    Calls Try.prog 67 #[.pointer (some ⟨p, 0, none⟩), .slice ao bs.length cap] w fun e w' => e = .returned (.tuple #[]) ∧ St B w0 w' (Ps.set i (AW p (s.lay bs))) := by
  obtain ⟨S, hS, hB, put⟩ := H.at i hi
  refine (raw_any S _ p s ao bs cap w hS hV (fun k hk h => by have := hB k h; omega) hbs hxs).mono ?_
  rintro e w' ⟨he, S', hW, hs⟩
  exact ⟨he, put S' w' (AW p _) hW hs⟩

theorem blob_st (H : St B w0 w Ps) (i : Nat) (hi : Ps[i]? = some (AW p s)) {ao : Option Addr} {bs : List UInt8} (cap : Nat) (hV : View w (fun k => k < B) ao bs) (hbs : bs.length ≤ 90000000) (hxs : s.xs.length ≤ 90000000) :
    Calls Try.prog 68 #[.pointer (some ⟨p, 0, none⟩), .slice ao bs.length cap] w fun e w' => e = .returned (.tuple #[]) ∧ St B w0 w' (Ps.set i (AW p (s.blob bs))) := by
  obtain ⟨S, hS, hB, put⟩ := H.at i hi
  refine (blob_any S _ p s ao bs cap w hS hV (fun k hk h => by have := hB k h; omega) hbs hxs).mono ?_
  rintro e w' ⟨he, S', hW, hs⟩
  exact ⟨he, put S' w' (AW p _) hW hs⟩

theorem out_st (H : St B w0 w Ps) (i : Nat) (hi : Ps[i]? = some (AW p s)) {n : Nat} (hn : s.xs.length = n) (hxs : n ≤ 1000000000) :
    Calls Try.prog 69 #[.pointer (some ⟨p, 0, none⟩)] w fun e w' => ∃ ao cap, e = .returned (.tuple #[.slice ao n cap, .int .i64 s.err]) ∧ St B w0 w' (AB ao n cap s.xs :: Ps) := by
  subst hn
  obtain ⟨S, hS, _, _⟩ := H.at i hi
  refine (out_any S p s w hS hxs).mono ?_
  rintro e w' ⟨ao, cap, T, he, hr, _, hs⟩
  exact ⟨ao, cap, he, H.new (AB ao _ cap s.xs) hr hs⟩

theorem newReader_old (H : St B w0 w Ps) {ao : Option Addr} {l : List UInt8} (cap : Nat) (hV : View w (fun k => k < B) ao l) (hl : l.length ≤ 1000000000) :
    Calls Try.prog 58 #[.slice ao l.length cap] w fun e w' => ∃ p, e = .returned (.pointer (some ⟨p, 0, none⟩)) ∧ St B w0 w' (AR p ⟨l, 0⟩ :: Ps) := by
  refine (newReader_any _ ao l cap w hV hl).mono ?_
  rintro e w' ⟨p, S, he, hR, hs⟩
  exact ⟨p, he, H.new (AR p _) hR hs⟩

theorem rnum_st (H : St B w0 w Ps) (i : Nat) (hi : Ps[i]? = some (AR p r)) (many : Int) {x : Nat × RS} (hx : r.num many = x) (hl : r.l.length ≤ 1000000000) :
    Calls Try.prog 59 #[.pointer (some ⟨p, 0, none⟩), .int .i64 many] w fun e w' => e = .returned (.int .u64 x.1) ∧ St B w0 w' (Ps.set i (AR p x.2)) := by
  subst hx
  obtain ⟨S, hS, _, put⟩ := H.at i hi
  refine (rnum_any S p r many w hS hl).mono ?_
  rintro e w' ⟨he, hR, hs⟩
  exact ⟨he, put S w' (AR p _) hR hs⟩

theorem rraw_st (H : St B w0 w Ps) (i : Nat) (hi : Ps[i]? = some (AR p r)) (n : Int) {x : List UInt8 × RS} (hx : r.raw n = x) {m : Nat} (hm : x.1.length = m) (hl : r.l.length ≤ 1000000000) :
    Calls Try.prog 79 #[.pointer (some ⟨p, 0, none⟩), .int .i64 n] w fun e w' => ∃ ao cap, e = .returned (.slice ao m cap) ∧ St B w0 w' (AB ao m cap x.1 :: Ps.set i (AR p x.2)) := by
  subst hx hm
  obtain ⟨S, hS, put⟩ := H.more i hi
  have hlt := (AR p r).lt hS
  refine (rraw_any S p r n w hS hl).mono ?_
  rintro e w' ⟨ao, cap, T, he, hr, hR, hs, hT⟩
  exact ⟨ao, cap, he, put S T w' (AR p _) (AB ao _ cap _) hR hr hs hT hlt⟩

theorem rblob_st (H : St B w0 w Ps) (i : Nat) (hi : Ps[i]? = some (AR p r)) (n : Int) (hn : n ≤ 9223372036854775807) {x : List UInt8 × RS} (hx : r.blob n = x) {m : Nat} (hm : x.1.length = m) (hl : r.l.length ≤ 1000000000) :
    Calls Try.prog 80 #[.pointer (some ⟨p, 0, none⟩), .int .i64 n] w fun e w' => ∃ ao cap, e = .returned (.slice ao m cap) ∧ St B w0 w' (AB ao m cap x.1 :: Ps.set i (AR p x.2)) := by
  subst hx hm
  obtain ⟨S, hS, put⟩ := H.more i hi
  have hlt := (AR p r).lt hS
  refine (rblob_any S p r n w hS hl hn).mono ?_
  rintro e w' ⟨ao, cap, T, he, hr, hR, hs, hT⟩
  exact ⟨ao, cap, he, put S T w' (AR p _) (AB ao _ cap _) hR hr hs hT hlt⟩

theorem end_st (H : St B w0 w Ps) (i : Nat) (hi : Ps[i]? = some (AR p r)) :
    Calls Try.prog 60 #[.pointer (some ⟨p, 0, none⟩)] w fun e w' => e = .returned (.int .i64 r.fin) ∧ w = w' := by
  obtain ⟨S, hS, _, _⟩ := H.at i hi
  exact end_any S p r w hS
end

end Cod
end Go.Proofs.Ytmdphcebmgcdbaa

end
section
namespace Go.Proofs.Ytmdphcebmgcdbaa
open Go.RowKit Go.Own
namespace Cod

theorem num_le (n k : Nat) : num (le n k) = n % 2 ^ (8 * k) := by
  induction k with
  | zero => simp [le, num, Nat.mod_one]
  | succ k ih =>
    rw [le, num_snoc, ih, le_len]
    have e : 2 ^ (8 * (k + 1)) = 2 ^ (8 * k) * 256 := by rw [Nat.mul_add, Nat.pow_add]
    rw [e, Nat.mod_mul]
    simp

theorem lay_fits (s : WS) (bs : List UInt8) (he : s.err = 0) (h : (bs.length : Int) ≤ s.room - s.xs.length) : s.lay bs = ⟨s.room, s.xs ++ bs, 0⟩ := by
  unfold WS.lay
  rw [if_neg (by simpa using he), if_neg (by omega), he]
theorem num_fits (s : WS) (n k : Nat) (he : s.err = 0) (hk : k ≤ 8) (h : (k : Int) ≤ s.room - s.xs.length) : s.num n k = ⟨s.room, s.xs ++ le n k, 0⟩ := by
  unfold WS.num
  rw [if_neg (by simpa using he), if_neg (by omega), Int.toNat_natCast, lay_fits s _ he (by rw [le_len]; exact h)]
theorem blob_fits (s : WS) (bs : List UInt8) (he : s.err = 0) (hb : bs.length ≤ 65535) (h : ((2 + bs.length : Nat) : Int) ≤ s.room - s.xs.length) : s.blob bs = ⟨s.room, s.xs ++ (le bs.length 2 ++ bs), 0⟩ := by
  unfold WS.blob
  rw [if_neg (by simpa using he), if_neg (by omega), lay_fits s _ he (by rw [List.length_append, le_len]; exact h)]

end Cod
end Go.Proofs.Ytmdphcebmgcdbaa

end
section
namespace Go.Own
open Go.RowKit
/-- a slice that reads as these cells -/
def RdRow (w : World) (v : Value) (n : Nat) (xs : List Value) : Prop := ∃ ao cap, v = .slice ao n cap ∧ (n = 0 ∨ ∃ g, ao = some ⟨g, 0, none⟩ ∧ ∀ j u, xs[j]? = some u → w.cell? ⟨g, j, none⟩ = some u)
theorem cellLater' {W w : World} {a : Addr} {v : Value} (h : W.cell? a = some v) (hb : Below W.heap.size W w) : w.cell? a = some v := by
  have hlt : a.block < W.heap.size := by
    unfold World.cell? at h
    rcases Nat.lt_or_ge a.block W.heap.size with h1 | h1
    · exact h1
    · rw [Array.getElem?_eq_none h1] at h; simp at h
  unfold World.cell? at h ⊢
  rw [hb.block a.block hlt]
  exact h
theorem RdRow.later {W w : World} {v : Value} {n : Nat} {xs : List Value} (h : RdRow W v n xs) (hb : Below W.heap.size W w) : RdRow w v n xs := by
  obtain ⟨ao, cap, rfl, h⟩ := h
  refine ⟨ao, cap, rfl, ?_⟩
  rcases h with h | ⟨g, e, h⟩
  · exact .inl h
  · exact .inr ⟨g, e, fun j u hu => cellLater' (h j u hu) hb⟩
/-- .. in a slot -/
def tyRow (n : Nat) (xs : List Value) : Ty where
  holds v w := RdRow w v n xs
  keep h g := h.later g
theorem rd_own {B : Nat} {w0 w : World} {Ps : List Asn} {e : TypeId} {size n : Nat} {v : Value} {xs : List Value} (H : St B w0 w Ps) (i : Nat) (hi : Ps[i]? = some (ARow e size v n xs)) : RdRow w v n xs := by
  obtain ⟨ao, cap, rfl⟩ := H.rowForm i hi
  refine ⟨ao, cap, rfl, ?_⟩
  cases ao with
  | none => exact .inl ((H.rowLen i hi).2.2.2 rfl).1
  | some a =>
    rcases Nat.eq_zero_or_pos n with h0 | hp
    · exact .inl h0
    · have hl := (H.rowLen i hi).1
      by_cases hs : size = 0
      · obtain ⟨S, hS, _⟩ := H.at i hi
        obtain ⟨ao', cap', hv, _, _, _, hg⟩ := Row.form hS
        simp only [Value.slice.injEq, true_and] at hv
        obtain ⟨rfl, rfl⟩ := hv
        obtain ⟨g, rfl, _⟩ := hg a rfl
        exact .inr ⟨g, rfl, fun j u hu => by have := (List.getElem?_eq_some_iff.1 hu).1; rw [hl, hs] at this; omega⟩
      · have hpos : 0 < n * size := Nat.mul_pos hp (Nat.pos_of_ne_zero hs)
        obtain ⟨g, hg, _⟩ := H.rowAt i hi 0 hpos
        cases hg
        refine .inr ⟨g, rfl, fun j u hu => ?_⟩
        have hj : j < n * size := by rw [← hl]; exact (List.getElem?_eq_some_iff.1 hu).1
        obtain ⟨g', hg', ⟨u', hu', hc⟩, _⟩ := H.rowAt i hi j hj
        cases hg'
        rw [hc, ← hu', hu]
end Go.Own
namespace Go.Proofs.Ytmdphcebmgcdbaa
open Go.RowKit Go.Own
namespace Tab
open Go.TabM
abbrev iV (k : Nat) : Value := .int .i64 (k : Int)
end Tab
end Go.Proofs.Ytmdphcebmgcdbaa

end
section
namespace Go.Own
open Go.RowKit
end Go.Own
namespace Go.Proofs.Ytmdphcebmgcdbaa
open Go.RowKit Go.Own
namespace Tab
open Go.TabM
theorem manyInt : Many Try.prog 44 3 1 8 := ⟨Try.underlying44, by kernel_rfl, by decide⟩
abbrev RowI (v : Value) (l : List Nat) (n : Nat) : Asn := ARow 3 1 v n (l.map iV)
theorem one_cellI (w : World) (i : Nat) : ∀ a, some (⟨w.heap.size, 0, none⟩ : Addr) = some a → ∀ j u, ([iV i] : List Value)[j]? = some u → (w.alloc (.cells #[.int .i64 (i : Int)] 3)).cell? (a.add j) = some u := by
  intro a ha j u hu
  cases ha
  cases j with
  | zero =>
    simp at hu
    subst hu
    rw [add_of]
    exact ((Own.St.start w).boxV 3 [iV i]).cellV 0 rfl 0 rfl |>.1
  | succ j => simp at hu
section
variable {B : Nat} {w0 w : World} {Ps : List Asn} {q : Nat} {v : Value} {t : T} {N : Nat}
end
end Tab
end Go.Proofs.Ytmdphcebmgcdbaa

end
section
namespace Go.Own
open Go.RowKit
section
variable {α : Type}
/-- an act in memory -/
def inE (enc : α → List Value) (Fit : α → Prop) : InT α := fun a _ _ cs => cs = enc a ∧ Fit a
/-- the round's act: what is there of it, and its copy -/
structure RoundE (P : Program) (ty : TypeId) (z : List Value) (B : Nat) (w0 wr : World) (Ps : List Asn) (b o : Nat) (vs : List Value) : Prop where
  range : wr.rangeAt b o vs
  there : (wr.alloc (.cells z.toArray ty)).there wr.heap.size 0 vs.toArray.size
  st : St B w0 ((wr.alloc (.cells z.toArray ty)).setCells wr.heap.size 0 vs.toArray.toList) (AVals wr.heap.size ty vs :: Ps)
  info : (P.info? ty).map (·.size) = some vs.length
  info2 : (P.info? ty).map (·.size) = some vs.toArray.size
  one : vs.toArray.all (·.oneCell') = true
  len : vs.length = z.length
theorem round_E {P : Program} {ty : TypeId} {z vs : List Value} {B : Nat} {w0 wr : World} {Ps : List Asn} {b o : Nat} (H : St B w0 wr Ps) (hr : wr.rangeAt b o vs) (hl : vs.length = z.length) (hi : (P.info? ty).map (·.size) = some z.length) (h1 : ∀ v ∈ vs, v.oneCell' = true) : RoundE P ty z B w0 wr Ps b o vs := by
  have hz := H.boxV ty z
  refine ⟨hr, ?_, ?_, by rw [hl]; exact hi, by rw [List.size_toArray, hl]; exact hi, all_oneCell_toArray h1, hl⟩
  · exact hz.thereV 0 rfl (by rw [List.size_toArray, hl]; exact Nat.le_refl _)
  · have := St.setAll 0 vs 0 _ _ z hz rfl (by rw [Nat.zero_add, hl])
    simpa using this
end
end Go.Own

end
section
namespace Go.Proofs.Ytmdphcebmgcdbaa
open Go.RowKit Go.Own
namespace Tab
open Go.TabM
abbrev i64T (x : Int) : Prop := -9223372036854775808 ≤ x ∧ x ≤ 9223372036854775807
abbrev actVs (a : ActD) : List Value := [.int .u8 (a.kind.toNat : Int), .int .i64 a.seg]
abbrev FitA (a : ActD) : Prop := i64T a.seg
abbrev inAct : InT ActD := inE actVs FitA
structure Kept (W : World) where
  A : Nat → T → Asn
  new : ∀ {B : Nat} {w0 w : World} {Ps : List Asn} (num : Int), Below W.heap.size W w → Own.St B w0 w Ps → i64T num →
    Calls Try.prog 9 #[.int .i64 num] w fun e w' => if mayBe num = true then ∃ p, e = .returned (.tuple #[ptr p, errT 0]) ∧ Own.St B w0 w' (A p (fresh num.toNat) :: Ps) else e = .returned (.tuple #[.pointer none, errT 1]) ∧ Own.St B w0 w' Ps
  open_ : ∀ {B : Nat} {w0 w : World} {Ps : List Asn} {p : Nat} {t : T} {N : Nat}, Below W.heap.size W w → Own.St B w0 w (A p t :: Ps) → Ok t N → N ≤ 10000 →
    Calls Try.prog 71 #[ptr p] w fun e w' => e = .returned (opV (openT t).2) ∧ Own.St B w0 w' (A p (openT t).1 :: Ps)
  seal_ : ∀ {B : Nat} {w0 w : World} {Ps : List Asn} {p : Nat} {t : T} {N : Nat}, Below W.heap.size W w → Own.St B w0 w (A p t :: Ps) → Ok t N → N ≤ 10000 →
    Calls Try.prog 36 #[ptr p] w fun e w' => e = .returned (errT (sealT t).2) ∧ Own.St B w0 w' (A p (sealT t).1 :: Ps)
  cur : ∀ {B : Nat} {w0 w : World} {Ps : List Asn} {p : Nat} {t : T} {N : Nat}, Below W.heap.size W w → Own.St B w0 w (A p t :: Ps) → Ok t N → N ≤ 10000 → Calls Try.prog 26 #[ptr p] w fun e w' => e = .returned (curV t) ∧ Below w.heap.size w w'
  rows : ∀ {B : Nat} {w0 w : World} {Ps : List Asn} {p : Nat} {t : T} {N : Nat}, Below W.heap.size W w → Own.St B w0 w (A p t :: Ps) → Ok t N → N ≤ 10000 → Calls Try.prog 30 #[ptr p] w fun e w' => ∃ ao c, e = .returned (.slice ao t.rows.length c) ∧ Own.St B w0 w' (ARow 133 3 (.slice ao t.rows.length c) t.rows.length (t.rows.flatMap sgC) :: A p t :: Ps) ∧ Below w.heap.size w w'
  next : ∀ {B : Nat} {w0 w : World} {Ps : List Asn} {p : Nat} {t : T} {N : Nat}, Below W.heap.size W w → Own.St B w0 w (A p t :: Ps) → Ok t N → N ≤ 10000 → Calls Try.prog 21 #[ptr p] w fun e w' => e = .returned (.int .u64 (t.next : Int)) ∧ Below w.heap.size w w'
  nilOpen : ∀ (w : World), Calls Try.prog 71 #[.pointer none] w fun e w' => e = .returned (opV (0, 0, 2)) ∧ Below w.heap.size w w'
  nilSeal : ∀ (w : World), Calls Try.prog 36 #[.pointer none] w fun e w' => e = .returned (errT 2) ∧ Below w.heap.size w w'
  nilCur : ∀ (w : World), Calls Try.prog 26 #[.pointer none] w fun e w' => e = .returned (.tuple #[.int .i64 0, .bool false]) ∧ Below w.heap.size w w'
  nilRows : ∀ (w : World), Calls Try.prog 30 #[.pointer none] w fun e w' => ∃ ao cap, e = .returned (.slice ao 0 cap) ∧ Below w.heap.size w w'
  nilNext : ∀ (w : World), Calls Try.prog 21 #[.pointer none] w fun e w' => e = .returned (.int .u64 0) ∧ Below w.heap.size w w'
section
variable {B : Nat} {w0 w : World} {Ps : List Asn} {p : Nat} {t : T} {N : Nat}
end
end Tab
end Go.Proofs.Ytmdphcebmgcdbaa

end
section
namespace Go.Proofs.Ytmdphcebmgcdbaa
namespace Rec
open Go.RecM
open Cod (RS)
theorem cod_num (l : RecM.Bs) : Cod.num l = RecM.num l := by
  induction l with
  | nil => rfl
  | cons c r ih => rw [Cod.num, RecM.num, ih]
theorem num_lt (l : RecM.Bs) : RecM.num l < 2 ^ (8 * l.length) := by
  induction l with
  | nil => simp [RecM.num]
  | cons c r ih =>
    have e : 2 ^ (8 * (r.length + 1)) = 256 * 2 ^ (8 * r.length) := by rw [Nat.mul_add, Nat.pow_add]; simp [Nat.mul_comm]
    have := c.toNat_lt
    rw [RecM.num, List.length_cons, e]
    omega
theorem le_cons (k n : Nat) : RecM.le n (k + 1) = UInt8.ofNat n :: RecM.le (n / 256) k := by
  induction k with
  | zero => simp [RecM.le]
  | succ k ih =>
    rw [RecM.le, ih, RecM.le, List.cons_append]
    congr 3
    have e : 2 ^ (8 * (k + 1)) = 256 * 2 ^ (8 * k) := by rw [Nat.mul_add, Nat.pow_add]; simp [Nat.mul_comm]
    rw [e, Nat.div_div_eq_div_mul]
theorem le_num (l : RecM.Bs) : RecM.le (RecM.num l) l.length = l := by
  induction l with
  | nil => rfl
  | cons c r ih =>
    have hc := c.toNat_lt
    rw [List.length_cons, le_cons, RecM.num, show (c.toNat + 256 * RecM.num r) / 256 = RecM.num r by omega, ih]
    congr 1
    apply UInt8.toNat_inj.1
    simp
/-- a number is read -/
theorem num_ok {r : RS} {k x : Nat} {l' : RecM.Bs} (hk : k ≤ 8) (h : r.num (k : Int) = (x, ⟨l', 0⟩)) : r.err = 0 ∧ r.l = RecM.le x k ++ l' ∧ x < 2 ^ (8 * k) := by
  obtain ⟨l, e⟩ := r
  unfold RS.num at h
  by_cases he : e = 0
  · subst he
    rw [if_neg (by simp), if_neg (by omega)] at h
    by_cases hs : (l.length : Int) < (k : Int)
    · simp only [hs, if_true, Prod.mk.injEq, RS.mk.injEq] at h
      exact absurd h.2.2 (by decide)
    · simp only [hs, if_false, Prod.mk.injEq, RS.mk.injEq, Int.toNat_natCast, and_true] at h
      obtain ⟨rfl, rfl⟩ := h
      have hl : (l.take k).length = k := by rw [List.length_take]; omega
      refine ⟨rfl, ?_, ?_⟩
      · rw [cod_num]
        have := le_num (l.take k)
        rw [hl] at this
        rw [this, List.take_append_drop]
      · rw [cod_num]
        have := num_lt (l.take k)
        rw [hl] at this
        exact this
  · rw [if_pos (by exact he)] at h
    simp only [Prod.mk.injEq, RS.mk.injEq] at h
    exact absurd h.2.2 he
theorem raw_ok {r : RS} {k : Nat} {x l' : RecM.Bs} (h : r.raw (k : Int) = (x, ⟨l', 0⟩)) : r.err = 0 ∧ r.l = x ++ l' ∧ x.length = k := by
  obtain ⟨l, e⟩ := r
  unfold RS.raw at h
  by_cases he : e = 0
  · subst he
    rw [if_neg (by simp), if_neg (by omega)] at h
    by_cases hs : (l.length : Int) < (k : Int)
    · simp only [hs, if_true, Prod.mk.injEq, RS.mk.injEq] at h
      exact absurd h.2.2 (by decide)
    · simp only [hs, if_false, Prod.mk.injEq, RS.mk.injEq, Int.toNat_natCast, and_true] at h
      obtain ⟨rfl, rfl⟩ := h
      exact ⟨rfl, (List.take_append_drop _ _).symm, by rw [List.length_take]; omega⟩
  · rw [if_pos (by exact he)] at h
    simp only [Prod.mk.injEq, RS.mk.injEq] at h
    exact absurd h.2.2 he
theorem blob_ok {r : RS} {x l' : RecM.Bs} (h : r.blob 300 = (x, ⟨l', 0⟩)) : r.err = 0 ∧ r.l = RecM.le x.length 2 ++ (x ++ l') ∧ x.length ≤ 300 := by
  obtain ⟨l, e⟩ := r
  unfold RS.blob at h
  by_cases he : e = 0
  · subst he
    rw [if_neg (by simp)] at h
    simp only at h
    by_cases h1 : (Cod.blobSz l 300).2 ≠ 0
    · rw [if_pos h1] at h
      simp only [Prod.mk.injEq, RS.mk.injEq] at h
      exact absurd h.2.2 h1
    · rw [if_neg h1] at h
      simp only [Prod.mk.injEq, RS.mk.injEq, and_true] at h
      obtain ⟨rfl, rfl⟩ := h
      unfold Cod.blobSz at h1 ⊢
      by_cases a1 : l.length < 2
      · rw [if_pos a1] at h1; exact absurd (by decide) h1
      rw [if_neg a1] at h1 ⊢
      by_cases a2 : max 300 0 < (Cod.num (l.take 2) : Int)
      · rw [if_pos a2] at h1; exact absurd (by decide) h1
      rw [if_neg a2] at h1 ⊢
      by_cases a3 : l.length - 2 < Cod.num (l.take 2)
      · rw [if_pos a3] at h1; exact absurd (by decide) h1
      rw [if_neg a3] at h1 ⊢
      simp only
      have hl : (l.take 2).length = 2 := by rw [List.length_take]; omega
      have hxl : ((l.drop 2).take (Cod.num (l.take 2))).length = Cod.num (l.take 2) := by rw [List.length_take, List.length_drop]; omega
      refine ⟨trivial, ?_, by rw [hxl]; omega⟩
      rw [hxl, List.take_append_drop, cod_num]
      have := le_num (l.take 2)
      rw [hl] at this
      rw [this, List.take_append_drop]
  · rw [if_pos (by exact he)] at h
    simp only [Prod.mk.injEq, RS.mk.injEq] at h
    exact absurd h.2.2 he
theorem num_run (x k : Nat) (l : RecM.Bs) (hk : k ≤ 8) (hx : x < 2 ^ (8 * k)) : RS.num ⟨RecM.le x k ++ l, 0⟩ (k : Int) = (x, ⟨l, 0⟩) := by
  unfold RS.num
  rw [if_neg (by simp), if_neg (by omega), if_neg (by simp [RecM.le_len]; omega)]
  simp only [Int.toNat_natCast]
  rw [cod_num, num_take x k l hx, drop_le]
theorem raw_run (s l : RecM.Bs) (k : Nat) (hk : s.length = k) : RS.raw ⟨s ++ l, 0⟩ (k : Int) = (s, ⟨l, 0⟩) := by
  subst hk
  unfold RS.raw
  rw [if_neg (by simp), if_neg (by omega), if_neg (by rw [List.length_append]; omega)]
  simp
theorem blob_run (d l : RecM.Bs) (hd : d.length ≤ 300) : RS.blob ⟨RecM.le d.length 2 ++ (d ++ l), 0⟩ 300 = (d, ⟨l, 0⟩) := by
  have hn : Cod.num ((RecM.le d.length 2 ++ (d ++ l)).take 2) = d.length := by rw [cod_num]; exact num_take _ 2 _ (by omega)
  have hs : Cod.blobSz (RecM.le d.length 2 ++ (d ++ l)) 300 = (d.length, 0) := by
    unfold Cod.blobSz
    rw [hn, if_neg (by rw [List.length_append, RecM.le_len]; omega), if_neg (by omega), if_neg (by rw [List.length_append, RecM.le_len, List.length_append]; omega)]
  unfold RS.blob
  rw [if_neg (by simp)]
  simp only [hs]
  rw [if_neg (by simp), drop_le]
  simp
def pad (s : RecM.Bs) : RecM.Bs := s ++ List.replicate (32 - s.length) 0
/-- what the document's parse makes of bytes, and what is left -/
def parse (b : RecM.Bs) : Nte × RS :=
  let a := RS.num ⟨b, 0⟩ 1
  let c := UInt8.ofNat a.1
  let d := if c = 1 ∨ c = 2 then RS.num a.2 4 else (0, a.2)
  let s := if c = 4 then (0, d.2) else RS.num d.2 8
  if c = 1 ∨ c = 4 then
    let x := RS.raw s.2 32
    let k := RS.num x.2 4
    let y := RS.blob k.2 300
    (⟨c, d.1, s.1, pad x.1, k.1, y.1⟩, y.2)
  else (⟨c, d.1, s.1, zsum, 0, []⟩, s.2)
theorem fin_zero {r : RS} (h : r.fin = 0) : r = ⟨[], 0⟩ := by
  obtain ⟨l, e⟩ := r
  unfold RS.fin at h
  by_cases h1 : e = 0 ∧ l ≠ []
  · rw [if_pos h1] at h; exact absurd h (by decide)
  · rw [if_neg h1] at h
    simp only at h
    subst h
    have : l = [] := by
      cases l with
      | nil => rfl
      | cons a l => exact absurd ⟨rfl, by simp⟩ h1
    rw [this]
theorem parse_kind (b : RecM.Bs) : (parse b).1.kind = UInt8.ofNat (RS.num ⟨b, 0⟩ 1).1 := by
  unfold parse
  simp only
  split <;> rfl
theorem parse_1 {b : RecM.Bs} (h : UInt8.ofNat (RS.num ⟨b, 0⟩ 1).1 = 1) : parse b = (⟨1, (RS.num (RS.num ⟨b, 0⟩ 1).2 4).1, (RS.num (RS.num (RS.num ⟨b, 0⟩ 1).2 4).2 8).1, pad (RS.raw (RS.num (RS.num (RS.num ⟨b, 0⟩ 1).2 4).2 8).2 32).1, (RS.num (RS.raw (RS.num (RS.num (RS.num ⟨b, 0⟩ 1).2 4).2 8).2 32).2 4).1, (RS.blob (RS.num (RS.raw (RS.num (RS.num (RS.num ⟨b, 0⟩ 1).2 4).2 8).2 32).2 4).2 300).1⟩, (RS.blob (RS.num (RS.raw (RS.num (RS.num (RS.num ⟨b, 0⟩ 1).2 4).2 8).2 32).2 4).2 300).2) := by
  unfold parse
  have n12 : ¬ ((1 : UInt8) = 2) := by decide
  have n14 : ¬ ((1 : UInt8) = 4) := by decide
  have n21 : ¬ ((2 : UInt8) = 1) := by decide
  have n24 : ¬ ((2 : UInt8) = 4) := by decide
  have n31 : ¬ ((3 : UInt8) = 1) := by decide
  have n32 : ¬ ((3 : UInt8) = 2) := by decide
  have n34 : ¬ ((3 : UInt8) = 4) := by decide
  have n41 : ¬ ((4 : UInt8) = 1) := by decide
  have n42 : ¬ ((4 : UInt8) = 2) := by decide
  simp only [h, n12, n14, or_false, if_true, if_false]
theorem parse_2 {b : RecM.Bs} (h : UInt8.ofNat (RS.num ⟨b, 0⟩ 1).1 = 2) : parse b = (⟨2, (RS.num (RS.num ⟨b, 0⟩ 1).2 4).1, (RS.num (RS.num (RS.num ⟨b, 0⟩ 1).2 4).2 8).1, zsum, 0, []⟩, (RS.num (RS.num (RS.num ⟨b, 0⟩ 1).2 4).2 8).2) := by
  unfold parse
  have n12 : ¬ ((1 : UInt8) = 2) := by decide
  have n14 : ¬ ((1 : UInt8) = 4) := by decide
  have n21 : ¬ ((2 : UInt8) = 1) := by decide
  have n24 : ¬ ((2 : UInt8) = 4) := by decide
  have n31 : ¬ ((3 : UInt8) = 1) := by decide
  have n32 : ¬ ((3 : UInt8) = 2) := by decide
  have n34 : ¬ ((3 : UInt8) = 4) := by decide
  have n41 : ¬ ((4 : UInt8) = 1) := by decide
  have n42 : ¬ ((4 : UInt8) = 2) := by decide
  simp only [h, n21, n24, or_true, or_self, if_true, if_false]
theorem parse_3 {b : RecM.Bs} (h : UInt8.ofNat (RS.num ⟨b, 0⟩ 1).1 = 3) : parse b = (⟨3, 0, (RS.num (RS.num ⟨b, 0⟩ 1).2 8).1, zsum, 0, []⟩, (RS.num (RS.num ⟨b, 0⟩ 1).2 8).2) := by
  unfold parse
  have n12 : ¬ ((1 : UInt8) = 2) := by decide
  have n14 : ¬ ((1 : UInt8) = 4) := by decide
  have n21 : ¬ ((2 : UInt8) = 1) := by decide
  have n24 : ¬ ((2 : UInt8) = 4) := by decide
  have n31 : ¬ ((3 : UInt8) = 1) := by decide
  have n32 : ¬ ((3 : UInt8) = 2) := by decide
  have n34 : ¬ ((3 : UInt8) = 4) := by decide
  have n41 : ¬ ((4 : UInt8) = 1) := by decide
  have n42 : ¬ ((4 : UInt8) = 2) := by decide
  simp only [h, n31, n32, n34, or_self, if_false]
theorem parse_4 {b : RecM.Bs} (h : UInt8.ofNat (RS.num ⟨b, 0⟩ 1).1 = 4) : parse b = (⟨4, 0, 0, pad (RS.raw (RS.num ⟨b, 0⟩ 1).2 32).1, (RS.num (RS.raw (RS.num ⟨b, 0⟩ 1).2 32).2 4).1, (RS.blob (RS.num (RS.raw (RS.num ⟨b, 0⟩ 1).2 32).2 4).2 300).1⟩, (RS.blob (RS.num (RS.raw (RS.num ⟨b, 0⟩ 1).2 32).2 4).2 300).2) := by
  unfold parse
  have n12 : ¬ ((1 : UInt8) = 2) := by decide
  have n14 : ¬ ((1 : UInt8) = 4) := by decide
  have n21 : ¬ ((2 : UInt8) = 1) := by decide
  have n24 : ¬ ((2 : UInt8) = 4) := by decide
  have n31 : ¬ ((3 : UInt8) = 1) := by decide
  have n32 : ¬ ((3 : UInt8) = 2) := by decide
  have n34 : ¬ ((3 : UInt8) = 4) := by decide
  have n41 : ¬ ((4 : UInt8) = 1) := by decide
  have n42 : ¬ ((4 : UInt8) = 2) := by decide
  simp only [h, n41, n42, or_true, or_self, if_true, if_false]
theorem pad_id {s : RecM.Bs} (h : s.length = 32) : pad s = s := by unfold pad; rw [h]; simp
theorem one_le (c : UInt8) (l : RecM.Bs) : c :: l = RecM.le c.toNat 1 ++ l := by
  simp [RecM.le]
theorem zsum_len : zsum.length = 32 := by simp [zsum]
/-- the first byte -/
theorem first_a {b : RecM.Bs} {l : RecM.Bs} {e : Int} (he : e = 0) {x : Nat} (h : RS.num ⟨b, 0⟩ 1 = (x, ⟨l, e⟩)) : b = UInt8.ofNat x :: l := by
  subst he
  obtain ⟨_, h2, h3⟩ := num_ok (k := 1) (by omega) h
  rw [one_le, show (UInt8.ofNat x).toNat = x by simp; omega]
  exact h2
theorem pair_eta {α β : Type} (p : α × β) {x : β} (h : p.2 = x) : p = (p.1, x) := by rw [← h]
/-- what was parsed to the end, and is right, is the note whose bytes these are -/
theorem parse_a {b : RecM.Bs} (hf : (parse b).2.fin = 0) (hr : right (parse b).1 = true) : Fits (parse b).1 ∧ laid (parse b).1 = b := by
  have h0 := fin_zero hf
  have hk := right_kind hr
  rw [parse_kind] at hk
  clear hf
  obtain ⟨a, ha⟩ : ∃ a, a = RS.num ⟨b, 0⟩ 1 := ⟨_, rfl⟩
  rw [← ha] at hk
  obtain ⟨a1, al, ae⟩ := a
  have ha' := ha.symm
  rcases hk with k | k | k | k
  · rw [parse_1 (by rw [ha']; exact k)] at h0 ⊢
    rw [ha'] at h0 ⊢
    simp only at h0 k ⊢
    obtain ⟨d, hd⟩ : ∃ d, d = RS.num ⟨al, ae⟩ 4 := ⟨_, rfl⟩
    rw [← hd] at h0 ⊢
    obtain ⟨s, hs⟩ : ∃ s, s = RS.num d.2 8 := ⟨_, rfl⟩
    rw [← hs] at h0 ⊢
    obtain ⟨x, hx⟩ : ∃ x, x = RS.raw s.2 32 := ⟨_, rfl⟩
    rw [← hx] at h0 ⊢
    obtain ⟨n, hn⟩ : ∃ n, n = RS.num x.2 4 := ⟨_, rfl⟩
    rw [← hn] at h0 ⊢
    obtain ⟨y1, hy1⟩ : ∃ y, y = (RS.blob n.2 300).1 := ⟨_, rfl⟩
    have hy : RS.blob n.2 300 = (y1, ⟨[], 0⟩) := by rw [hy1]; exact pair_eta _ h0
    rw [← hy1]
    obtain ⟨n1, nl, ne⟩ := n
    obtain ⟨q1, q2, q3⟩ := blob_ok hy
    simp only at q1 q2 ⊢
    subst q1
    obtain ⟨x1, xl, xe⟩ := x
    obtain ⟨p1, p2, p3⟩ := num_ok (k := 4) (by omega) hn.symm
    simp only at p1 p2 ⊢
    subst p1
    obtain ⟨s1, sl, se⟩ := s
    obtain ⟨r1, r2, r3⟩ := raw_ok (k := 32) hx.symm
    simp only at r1 r2 ⊢
    subst r1
    obtain ⟨d1, dl, de⟩ := d
    obtain ⟨t1, t2, t3⟩ := num_ok (k := 8) (by omega) hs.symm
    simp only at t1 t2 ⊢
    subst t1
    obtain ⟨u1, u2, u3⟩ := num_ok (k := 4) (by omega) hd.symm
    simp only at u1 u2 ⊢
    subst u1
    have hb := first_a rfl ha'
    rw [pad_id r3]
    refine ⟨⟨by simpa using u3, by simpa using t3, r3, by simpa using p3⟩, ?_⟩
    rw [hb, k, u2, t2, r2, p2, q2]
    simp [laid, RecM.tail]
  · rw [parse_2 (by rw [ha']; exact k)] at h0 ⊢
    rw [ha'] at h0 ⊢
    simp only at h0 k ⊢
    obtain ⟨d, hd⟩ : ∃ d, d = RS.num ⟨al, ae⟩ 4 := ⟨_, rfl⟩
    rw [← hd] at h0 ⊢
    obtain ⟨y1, hy1⟩ : ∃ y, y = (RS.num d.2 8).1 := ⟨_, rfl⟩
    have hy : RS.num d.2 8 = (y1, ⟨[], 0⟩) := by rw [hy1]; exact pair_eta _ h0
    rw [← hy1]
    obtain ⟨d1, dl, de⟩ := d
    obtain ⟨t1, t2, t3⟩ := num_ok (k := 8) (by omega) hy
    simp only at t1 t2 ⊢
    subst t1
    obtain ⟨u1, u2, u3⟩ := num_ok (k := 4) (by omega) hd.symm
    simp only at u1 u2 ⊢
    subst u1
    have hb := first_a rfl ha'
    refine ⟨⟨by simpa using u3, by simpa using t3, zsum_len, Nat.zero_lt_succ _⟩, ?_⟩
    rw [hb, k, u2, t2]
    simp [laid]
  · rw [parse_3 (by rw [ha']; exact k)] at h0 ⊢
    rw [ha'] at h0 ⊢
    simp only at h0 k ⊢
    obtain ⟨y1, hy1⟩ : ∃ y, y = (RS.num ⟨al, ae⟩ 8).1 := ⟨_, rfl⟩
    have hy : RS.num ⟨al, ae⟩ 8 = (y1, ⟨[], 0⟩) := by rw [hy1]; exact pair_eta _ h0
    rw [← hy1]
    obtain ⟨t1, t2, t3⟩ := num_ok (k := 8) (by omega) hy
    simp only at t1 t2 ⊢
    subst t1
    have hb := first_a rfl ha'
    refine ⟨⟨Nat.zero_lt_succ _, by simpa using t3, zsum_len, Nat.zero_lt_succ _⟩, ?_⟩
    rw [hb, k, t2]
    simp [laid]
  · rw [parse_4 (by rw [ha']; exact k)] at h0 ⊢
    rw [ha'] at h0 ⊢
    simp only at h0 k ⊢
    obtain ⟨x, hx⟩ : ∃ x, x = RS.raw ⟨al, ae⟩ 32 := ⟨_, rfl⟩
    rw [← hx] at h0 ⊢
    obtain ⟨n, hn⟩ : ∃ n, n = RS.num x.2 4 := ⟨_, rfl⟩
    rw [← hn] at h0 ⊢
    obtain ⟨y1, hy1⟩ : ∃ y, y = (RS.blob n.2 300).1 := ⟨_, rfl⟩
    have hy : RS.blob n.2 300 = (y1, ⟨[], 0⟩) := by rw [hy1]; exact pair_eta _ h0
    rw [← hy1]
    obtain ⟨n1, nl, ne⟩ := n
    obtain ⟨q1, q2, q3⟩ := blob_ok hy
    simp only at q1 q2 ⊢
    subst q1
    obtain ⟨x1, xl, xe⟩ := x
    obtain ⟨p1, p2, p3⟩ := num_ok (k := 4) (by omega) hn.symm
    simp only at p1 p2 ⊢
    subst p1
    obtain ⟨r1, r2, r3⟩ := raw_ok (k := 32) hx.symm
    simp only at r1 r2 ⊢
    subst r1
    have hb := first_a rfl ha'
    rw [pad_id r3]
    refine ⟨⟨Nat.zero_lt_succ _, Nat.zero_lt_succ _, r3, by simpa using p3⟩, ?_⟩
    rw [hb, k, r2, p2, q2]
    simp [laid, RecM.tail]
/-- a note's bytes are parsed as the note, to the end -/
theorem parse_b {n : Nte} (f : Fits n) (hr : right n = true) : parse (laid n) = (n, ⟨[], 0⟩) := by
  have hk := right_kind hr
  have hd := right_data hr
  have b1 := f.addr
  have b2 := f.seq
  have b3 := f.kn
  have hfst : ∀ l, RS.num ⟨n.kind :: l, 0⟩ 1 = (n.kind.toNat, ⟨l, 0⟩) := by
    intro l
    have := num_run n.kind.toNat 1 l (by omega) (by have := n.kind.toNat_lt; omega)
    rw [← one_le] at this
    exact this
  obtain ⟨c, ad, sq, su, kn, da⟩ := n
  simp only at *
  rcases hk with k | k | k | k
  all_goals subst k
  · have e : laid ⟨1, ad, sq, su, kn, da⟩ = 1 :: (RecM.le ad 4 ++ (RecM.le sq 8 ++ (su ++ (RecM.le kn 4 ++ (RecM.le da.length 2 ++ (da ++ [])))))) := by simp [laid, RecM.tail]
    rw [e]
    have h1 := hfst (RecM.le ad 4 ++ (RecM.le sq 8 ++ (su ++ (RecM.le kn 4 ++ (RecM.le da.length 2 ++ (da ++ []))))))
    rw [parse_1 (by rw [h1]; rfl), h1]
    simp only [num_run ad 4 _ (by omega) (by omega), num_run sq 8 _ (by omega) (by omega), raw_run su _ 32 f.sum, num_run kn 4 _ (by omega) (by omega), blob_run da _ hd, pad_id f.sum, show (4 : Int) = ((4 : Nat) : Int) from rfl, show (8 : Int) = ((8 : Nat) : Int) from rfl, show (32 : Int) = ((32 : Nat) : Int) from rfl]
  · obtain ⟨z1, z2, z3⟩ := right_2 hr rfl
    simp only at z1 z2 z3
    subst z1 z2 z3
    have e : laid ⟨2, ad, sq, zsum, 0, []⟩ = 2 :: (RecM.le ad 4 ++ (RecM.le sq 8 ++ [])) := by simp [laid]
    rw [e]
    have h1 := hfst (RecM.le ad 4 ++ (RecM.le sq 8 ++ []))
    rw [parse_2 (by rw [h1]; rfl), h1]
    simp only [num_run ad 4 _ (by omega) (by omega), num_run sq 8 _ (by omega) (by omega), show (4 : Int) = ((4 : Nat) : Int) from rfl, show (8 : Int) = ((8 : Nat) : Int) from rfl]
  · obtain ⟨z0, z1, z2, z3⟩ := right_3 hr rfl
    simp only at z0 z1 z2 z3
    subst z0 z1 z2 z3
    have e : laid ⟨3, 0, sq, zsum, 0, []⟩ = 3 :: (RecM.le sq 8 ++ []) := by simp [laid]
    rw [e]
    have h1 := hfst (RecM.le sq 8 ++ [])
    rw [parse_3 (by rw [h1]; rfl), h1]
    simp only [num_run sq 8 _ (by omega) (by omega), show (8 : Int) = ((8 : Nat) : Int) from rfl]
  · obtain ⟨z0, z1, z2⟩ := right_4 hr rfl
    simp only at z0 z1 z2
    subst z0 z1
    have e : laid ⟨4, 0, 0, su, kn, da⟩ = 4 :: (su ++ (RecM.le kn 4 ++ (RecM.le da.length 2 ++ (da ++ [])))) := by simp [laid, RecM.tail]
    rw [e]
    have h1 := hfst (su ++ (RecM.le kn 4 ++ (RecM.le da.length 2 ++ (da ++ []))))
    rw [parse_4 (by rw [h1]; rfl), h1]
    simp only [raw_run su _ 32 f.sum, num_run kn 4 _ (by omega) (by omega), blob_run da _ hd, pad_id f.sum, show (4 : Int) = ((4 : Nat) : Int) from rfl, show (32 : Int) = ((32 : Nat) : Int) from rfl]
theorem take_parse (b : RecM.Bs) : RecM.take b = if (parse b).2.fin = 0 ∧ right (parse b).1 = true then ((parse b).1, 0) else (zeroN, 100) := by
  by_cases h : IsNote b
  · obtain ⟨n, f, hr, rfl⟩ := h
    have hp := parse_b f hr
    rw [take_laid f hr, hp, if_pos ⟨by unfold RS.fin; simp, hr⟩]
  · rw [take_none h, if_neg]
    rintro ⟨h1, h2⟩
    obtain ⟨f, e⟩ := parse_a h1 h2
    exact h ⟨_, f, h2, e⟩
end Rec
end Go.Proofs.Ytmdphcebmgcdbaa

end
section
namespace Go.Proofs.Ytmdphcebmgcdbaa
open Go.RowKit Go.Own
namespace Byt
abbrev strV (b : List UInt8) : Value := .string (strB b)
theorem eql_str {o : Oper} {x y : Tmp} (ho : o.op = .binOp .eql 9 (.tmp x) (.tmp y) 9) (a b : List UInt8) (v : Bool) (hv : decide (a = b) = v) (ρ : Operand → Value) (w : World) (h0 : ρ (.tmp x) = strV a) (h1 : ρ (.tmp y) = strV b) :
    (execOp ρ o).run Try.prog w = .ok (.value (.bool v)) w := by
  simp only [execOp, ho, h0, h1]
  cases v <;> simp at hv <;> simp [go_sem, strB_toList, hv]
theorem oneInt : One Try.prog 44 3 (.int .i64 0) 8 := ⟨Try.underlying44, by kernel_rfl, rfl⟩
theorem oneStr : One Try.prog 104 9 (.string ⟨#[]⟩) 16 := ⟨Try.underlying104, by kernel_rfl, rfl⟩
end Byt
end Go.Proofs.Ytmdphcebmgcdbaa

end
