/- Merged: Roc LaxF TabR TabRb Res TabRc Cod CodC CodD CodS TabRd TabRe -/
import Derived.Laws.StructEq
import Derived.Laws.Cover2
import Derived.Laws.Rows
import Derived.Deep.MidRow
import Derived.BigQuiet
import Derived.BigRegion
import Derived.Deep.QuietTactic
import Derived.Lib.Hide
import Derived.OwnWalk
import Derived.Test.YtlgfddpgmpabcaaRows
import Derived.WalkKit
import Derived.Deep.RegionLaw
import Derived.Deep.DeepMust
import Derived.WalkSpells
import Derived.WalkLawsBesides
import Derived.Lib.SlBytesRow
import Derived.Lib.Strings
import Derived.Test.YtlgfddpgmpabcaaQ1
section
namespace Go.Own
open Go.RowKit
section
variable {B : Nat} {w0 : World} {e : TypeId} {size n cap : Nat}
/-- several cells of a row of one's own, from o on, are written -/
theorem St.rowCells (i : Nat) {g : Nat} : ∀ (r : List Value) (o : Nat) (w : World) (Ps : List Asn) (xs : List Value), St B w0 w Ps → Ps[i]? = some (ARow e size (.slice (some ⟨g, 0, none⟩) n cap) n xs) → o + r.length ≤ n * size →
    St B w0 (w.setCells g o r) (Ps.set i (ARow e size (.slice (some ⟨g, 0, none⟩) n cap) n (xs.take o ++ r ++ xs.drop (o + r.length))))
  | [], o, w, Ps, l, h, hi, hl => by
    have ee : l.take o ++ [] ++ l.drop (o + ([] : List Value).length) = l := by simp
    rw [ee]
    have hs : Ps.set i (ARow e size (.slice (some ⟨g, 0, none⟩) n cap) n l) = Ps := by
      apply List.ext_getElem?
      intro j
      by_cases hj : j = i
      · subst hj
        rw [List.getElem?_set_self (List.getElem?_eq_some_iff.1 hi).1, hi]
      · rw [List.getElem?_set_ne (Ne.symm hj)]
    rw [hs]
    exact h
  | c :: r, o, w, Ps, l, h, hi, hl => by
    have hlen := (h.rowLen i hi).1
    have hon : o < n * size := by simp at hl; omega
    obtain ⟨g', hg', _, _, put⟩ := h.rowAt i hi o hon
    cases hg'
    have hlt : i < Ps.length := (List.getElem?_eq_some_iff.1 hi).1
    have h2 := St.rowCells i r (o + 1) _ _ (l.set o c) (put c) (by rw [List.getElem?_set_self hlt]) (by simp at hl ⊢; omega)
    rw [List.set_set] at h2
    have ee : (l.set o c).take (o + 1) ++ r ++ (l.set o c).drop (o + 1 + r.length) = l.take o ++ (c :: r) ++ l.drop (o + (c :: r).length) := by
      have ho : o < l.length := by omega
      have e0 : (l.set o c).take o = l.take o := by
        apply List.ext_getElem?
        intro j
        by_cases hj : j < o
        · rw [List.getElem?_take_of_lt hj, List.getElem?_take_of_lt hj, List.getElem?_set_ne (by omega)]
        · rw [List.getElem?_eq_none (by simp; omega), List.getElem?_eq_none (by simp; omega)]
      have e1 : (l.set o c).drop (o + 1 + r.length) = l.drop (o + (c :: r).length) := by
        apply List.ext_getElem?
        intro j
        rw [List.getElem?_drop, List.getElem?_drop, List.getElem?_set_ne (by omega)]
        congr 1
        simp
        omega
      rw [List.take_succ_eq_append_getElem (by simpa using ho), e0, e1]
      simp
    rw [ee] at h2
    exact h2
/-- the cells of a row, from o on -/
theorem St.rowRange {w : World} {Ps : List Asn} (H : St B w0 w Ps) (i : Nat) {g : Nat} {xs : List Value} (hi : Ps[i]? = some (ARow e size (.slice (some ⟨g, 0, none⟩) n cap) n xs)) (j : Nat) (hj : j < n * size) : w.cell? ⟨g, j, none⟩ = xs[j]? ∧ w.frozen? ⟨g, j, none⟩ = false := by
  obtain ⟨g', hg', ⟨u, hu, hc⟩, hf, _⟩ := H.rowAt i hi j hj
  cases hg'
  exact ⟨by rw [hc, hu], hf⟩
end

theorem flat_at {α : Type} (f : α → List Value) (c : Nat) : ∀ (L : List α), (∀ a ∈ L, (f a).length = c) → ∀ (k : Nat) (a : α), L[k]? = some a → ∀ j, j < c → (L.flatMap f)[k * c + j]? = (f a)[j]?
  | [], _, k, a, h, _, _ => by simp at h
  | x :: L, hl, 0, a, h, j, hj => by
    have h2 : x = a := by simpa using h
    subst h2
    have hx := hl x (List.mem_cons_self ..)
    rw [Nat.zero_mul, Nat.zero_add, List.flatMap_cons, List.getElem?_append_left (by omega)]
  | x :: L, hl, k + 1, a, h, j, hj => by
    have hx := hl x (List.mem_cons_self ..)
    rw [List.flatMap_cons, List.getElem?_append_right (by rw [hx, Nat.add_mul]; omega), hx, show (k + 1) * c + j - c = k * c + j by rw [Nat.add_mul]; omega]
    exact flat_at f c L (fun y hy => hl y (List.mem_cons_of_mem _ hy)) k a (by simpa using h) j hj
theorem flat_length {α : Type} (f : α → List Value) (c : Nat) : ∀ (L : List α), (∀ a ∈ L, (f a).length = c) → (L.flatMap f).length = L.length * c
  | [], _ => by simp
  | x :: L, hl => by
    rw [List.flatMap_cons, List.length_append, hl x (List.mem_cons_self ..), flat_length f c L (fun y hy => hl y (List.mem_cons_of_mem _ hy)), List.length_cons, Nat.add_mul, Nat.one_mul, Nat.add_comm]
/-- what the type of an element is like -/
structure Many (P : Program) (t e : TypeId) (size bytes : Nat) : Prop where
  slice : P.underlying t = some (.slice e)
  info : (P.info? e).map (fun i => (i.zero.map (·.cells.size), i.size, i.bytes)) = some (some size, size, bytes)
  pos : 0 < size
section
variable {P : Program} {B : Nat} {w0 w : World} {Ps : List Asn} {t e : TypeId} {size bytes : Nat}
/-- an empty slice literal -/
theorem St.emptyRow (H : St B w0 w Ps) (e : TypeId) (size : Nat) : St B w0 (w.alloc (.cells #[] e)) (ARow e size (.slice (some ⟨w.heap.size, 0, none⟩) 0 0) 0 [] :: Ps) :=
  H.new (S' := fun k => k = w.heap.size) (ARow e size _ 0 []) (Row.made w (#[] : Array Value) e size 0 (Nat.zero_le _) (by simp)) (((Step.refl (fun _ => False) w).alloc (.cells #[] e)).to (fun k hk => .inr (Nat.le_of_eq hk.symm)))
/-- append of several onto a row of one's own -/
theorem run_many_append (O : Many P t e size bytes) (H : St B w0 w Ps) (i : Nat) {v : Value} {n : Nat} {xs : List Value} (hi : Ps[i]? = some (ARow e size v n xs)) (ty : TypeId)
    (ao : Option Addr) (m c : Nat) (news : List Value) (hno : ao = none → m = 0 ∧ c = 0) (hl : news.length = m * size) (hc : ∀ a, ao = some a → ∀ j u, news[j]? = some u → w.cell? (a.add j) = some u) (h1 : ∀ u ∈ news, u.oneCell' = true) (b1 : n + m ≤ 1000000) (b2 : bytes ≤ 10000) :
    ∃ ao' cap' w', (Builtin.append_ #[t, t] ty #[v, .slice ao m c]).run P w = .ok (.slice ao' (n + m) cap') w' ∧ St B w0 w' (Ps.set i (ARow e size (.slice ao' (n + m) cap') (n + m) (xs ++ news))) := by
  obtain ⟨i0, hi0, hz⟩ := Option.map_eq_some_iff.1 O.info
  simp only [Prod.mk.injEq] at hz
  obtain ⟨hz0, hz1, hz2⟩ := hz
  obtain ⟨z, hz3, hz4⟩ := Option.map_eq_some_iff.1 hz0
  obtain ⟨S, hS, _, put⟩ := H.at i hi
  obtain ⟨v', w', T', hr, hrow, hst⟩ := run_append_row (P := P) w t ty e i0 z size bytes O.slice hi0 hz3 hz1 hz2 hz4 O.pos v n xs hS ao m c news hno hl hc h1 (by unfold maxLen; omega) (Nat.le_trans (Nat.mul_le_mul b1 b2) (by decide))
  obtain ⟨ao', cap', rfl, _⟩ := hrow.form
  exact ⟨ao', cap', w', hr, put T' w' (ARow e size (.slice ao' (n + m) cap') (n + m) (xs ++ news)) hrow hst⟩
theorem wpList_many_append {ops : Array Oper} {rest : List Oper} {o : Oper} {a : Act} {Q : Exit → Act → World → Prop} (O : Many P t e size bytes) (hgd : o.guard = none) (s x : Operand)
    (ho : o.op = .call { callee := .builtin .append, args := #[s, x], argTypes := #[t, t] }) (H : St B w0 w Ps) (i : Nat) {v : Value} {n : Nat} {xs : List Value} (hi : Ps[i]? = some (ARow e size v n xs)) (hs : a.eval s = v)
    (ao : Option Addr) (m c : Nat) (news : List Value) (hx : a.eval x = .slice ao m c) (hno : ao = none → m = 0 ∧ c = 0) (hl : news.length = m * size) (hc : ∀ a, ao = some a → ∀ j u, news[j]? = some u → w.cell? (a.add j) = some u) (h1 : ∀ u ∈ news, u.oneCell' = true) (b1 : n + m ≤ 1000000) (b2 : bytes ≤ 10000)
    (h : ∀ ao' cap' w', St B w0 w' (Ps.set i (ARow e size (.slice ao' (n + m) cap') (n + m) (xs ++ news))) → wpList P ops Q rest (a.put o.dst (.slice ao' (n + m) cap')) w') : wpList P ops Q (o :: rest) a w := by
  refine wpList_plain hgd fun K hK => ?_
  obtain ⟨ao', cap', w', hrun, h1⟩ := run_many_append O H i hi o.type ao m c news hno hl hc h1 b1 b2
  unfold Oper.wp
  simp [execOp, ho, resolve, invoke, builtin, hs, hx, hrun, Result.andThen]
  exact hK _ _ (h ao' cap' w' h1)
/-- the cells of a row that another one stands beside -/
theorem St.rowNews {n cap : Nat} {ao : Option Addr} {xs : List Value} (H : St B w0 w Ps) (i : Nat) (hi : Ps[i]? = some (ARow e size (.slice ao n cap) n xs)) : ∀ a, ao = some a → ∀ j u, xs[j]? = some u → w.cell? (a.add j) = some u := by
  intro a ha j u hu
  subst ha
  have hl := (H.rowLen i hi).1
  have hj := (List.getElem?_eq_some_iff.1 hu).1
  obtain ⟨g, hg, ⟨x, hx, hc⟩, _, _⟩ := H.rowAt i hi j (by omega)
  cases hg
  rw [add_of, Nat.zero_add, hc, ← hx, hu]
end
section
variable {P : Program} {t e : TypeId} {size bytes : Nat} {B : Nat} {w0 w : World} {Ps : List Asn}
/-- make([]T, n), where a T has many cells -/
theorem St.manyMake {zs : List Value} {z : Value} (O : Many P t e size bytes) (hz : (P.info? e).bind (·.zero) = some z) (hzs : z.cells = zs.toArray) (H : St B w0 w Ps) (kl kc : IntKind) (n : Nat) (hn : n ≤ 100000) (b2 : bytes ≤ 10000) :
    ∃ w' g, (Instr.makeSlice t (.int kl (n : Int)) (.int kc (n : Int))).run P w = .ok (.slice (some ⟨g, 0, none⟩) n n) w' ∧ St B w0 w' (ARow e size (.slice (some ⟨g, 0, none⟩) n n) n ((List.replicate n zs).flatten) :: Ps) := by
  obtain ⟨i0, hi0, hq⟩ := Option.map_eq_some_iff.1 O.info
  simp only [Prod.mk.injEq] at hq
  obtain ⟨hz0, hz1, hz2⟩ := hq
  obtain ⟨z', hz3, hz4⟩ := Option.map_eq_some_iff.1 hz0
  have hzz : z' = z := by rw [hi0] at hz; simp only [Option.bind_some] at hz; rw [hz3] at hz; exact Option.some.inj hz
  subst hzz
  obtain ⟨w', hr, hown, hg⟩ := run_make_full (P := P) w 0 t e i0 z' size O.slice hi0 hz3 hz1 kl kc n (by rw [hz2]; exact Nat.le_trans (Nat.mul_le_mul b2 hn) (by decide)) (by unfold maxLen; omega) (Nat.zero_le _)
  have hzl : zs.length = size := by rw [hzs] at hz4; simpa using hz4
  have em : (madeCells z'.cells (n * size)).toList = (List.replicate n zs).flatten := by
    rw [hzs]
    unfold madeCells
    have hfl : (List.replicate n zs).flatten = (List.replicate n ()).flatMap (fun _ => zs) := by rw [List.flatMap_def, List.map_replicate]
    rw [hfl]
    apply List.ext_getElem?
    intro i
    by_cases hi : i < n * size
    · have hpos := O.pos
      have hk : i / size < n := (Nat.div_lt_iff_lt_mul hpos).2 hi
      have hm := Nat.mod_lt i hpos
      have h1 := flat_at (fun _ : Unit => zs) size (List.replicate n ()) (fun _ _ => hzl) (i / size) () (by simp [hk]) (i % size) hm
      rw [Nat.mul_comm, Nat.div_add_mod] at h1
      rw [h1]
      simp [hi, hzl, hm]
    · have h1 := flat_length (fun _ : Unit => zs) size (List.replicate n ()) (fun _ _ => hzl)
      rw [List.length_replicate] at h1
      rw [List.getElem?_eq_none (by simp; omega), List.getElem?_eq_none (by omega)]
  rw [em] at hown
  refine ⟨w', w.heap.size, hr, H.new (S' := fun k => k = w.heap.size) (ARow e size _ n _) ⟨hown, fun k => by simp [Value.ownBlock, eq_comm]⟩ ?_⟩
  exact ((Step.refl (fun _ => False) w).grown hg (by intro k hk; cases hk)).to (fun k hk => .inr (Nat.le_of_eq hk.symm))
end
/-- a new variable of many cells -/
theorem wpList_allocZ {P : Program} {ops : Array Oper} {rest : List Oper} {o : Oper} {a : Act} {w : World} {Q : Exit → Act → World → Prop} (hgd : o.guard = none) (ty : TypeId) (ho : o.op = .alloc ty) (z : Array Value) (hz : (P.info? ty).bind (·.zero) = some (.agg z))
    (h : wpList P ops Q rest (a.put o.dst (.pointer (some ⟨w.heap.size, 0, none⟩))) (w.alloc (.cells z ty))) : wpList P ops Q (o :: rest) a w := by
  refine wpList_plain hgd fun K hK => ?_
  obtain ⟨i, hi, hi2⟩ := Option.bind_eq_some_iff.1 hz
  unfold Oper.wp
  simp [execOp, ho, Instr.alloc, zeroValue, typeInfo, hi, hi2, Result.andThen]
  exact hK _ _ h
end Go.Own

end
section
namespace Go.Own
open Go.RowKit

section
variable {P : Program} {ops : Array Oper} {C : World → Prop}

/-- the slots of F that are there hold new blocks, apart from one another -/
def Fresh (ops : Array Oper) (F : List Tmp) (listed : Array Bool) (a1 : Act) (w1 : World) : Prop :=
  (∀ (j : Nat) (oj : Oper) (d : Tmp), ops[j]? = some oj → listed.getD j false = true → oj.dst = some d → d ∈ F → ∃ b, a1.tmps.getD d undef = .pointer (some ⟨b, 0, none⟩) ∧ b < w1.heap.size) ∧
  ∀ (j k : Nat) (oj ok : Oper) (d d' : Tmp), ops[j]? = some oj → ops[k]? = some ok → listed.getD j false = true → listed.getD k false = true → oj.dst = some d → ok.dst = some d' → d ∈ F → d' ∈ F → d ≠ d' → a1.tmps.getD d undef ≠ a1.tmps.getD d' undef

/-- an operation's value, and that it is the new block if the operation makes one -/
theorem with_fresh {F : List Tmp} {ob : Obj} {oi : Oper} {i : Nat} {a0 a1 : Act} {w1 : World} {R : Value → World → Prop} {K : Act → World → Prop} {Q : Exit → Act → World → Prop} (hs : a1.tmps.size = a0.tmps.size)
    (hin : ∀ (k : Nat) (o : Oper) (d : Tmp), ops[k]? = some o → o.dst = some d → d < a0.tmps.size) (hoi : ops[i]? = some oi)
    (hF : ∀ (i : Nat) (oi : Oper) (d : Tmp), ops[i]? = some oi → oi.dst = some d → d ∈ F → oi.guard = none ∧ ∀ a1 w K Q, oi.wp P a1 w K Q ↔ K (a1.put (some d) (.pointer (some ⟨w.heap.size, 0, none⟩))) (w.alloc ob))
    (h : ∀ (K : Act → World → Prop) (Q : Exit → Act → World → Prop), (∀ v w', R v w' → Below w1.heap.size w1 w' → K (a1.put oi.dst v) w') → oi.wp P a1 w1 K Q)
    (k : ∀ v w', R v w' → Below w1.heap.size w1 w' → (∀ d, oi.dst = some d → d ∈ F → v = .pointer (some ⟨w1.heap.size, 0, none⟩) ∧ w1.heap.size < w'.heap.size) → K (a1.put oi.dst v) w') : oi.wp P a1 w1 K Q := by
  by_cases hd : ∃ d, oi.dst = some d ∧ d ∈ F
  · obtain ⟨d, hd, hdF⟩ := hd
    have hi := (hF i oi d hoi hd hdF).2
    obtain ⟨v, e, hv, hb⟩ := (hi a1 w1 _ Q).1 (h (fun a' w' => ∃ v, a' = a1.put oi.dst v ∧ R v w' ∧ Below w1.heap.size w1 w') Q (fun v w' h1 h2 => ⟨v, rfl, h1, h2⟩))
    have hlt : d < a1.tmps.size := by rw [hs]; exact hin i oi d hoi hd
    have e2 : v = .pointer (some ⟨w1.heap.size, 0, none⟩) := by
      have := congrArg (fun a : Act => a.tmps.getD d undef) e
      simp only [hd] at this
      rw [put_getD a1 d d _ hlt, put_getD a1 d d _ hlt, if_pos rfl, if_pos rfl] at this
      exact this.symm
    refine (hi a1 w1 K Q).2 ?_
    have := k v _ hv hb (fun d' hd' _ => ⟨e2, by simp⟩)
    rw [hd, e2] at this
    exact this
  · exact h K Q (fun v w' h1 h2 => k v w' h1 h2 (fun d h3 h4 => absurd ⟨d, h3, h4⟩ hd))

/-- an operation waits for another, by way of others -/
inductive Reach (md : Region.Mode) (ops : Array Oper) : Oper → Nat → Prop
  | one {o : Oper} {e : Edge} {j : Nat} : e ∈ o.after → Region.binds md e = true → e.on = j → Reach md ops o j
  | step {o ok : Oper} {e : Edge} {j : Nat} : e ∈ o.after → Region.binds md e = true → ops[e.on]? = some ok → Reach md ops ok j → Reach md ops o j
theorem Reach.listed {md : Region.Mode} {ops : Array Oper} {listed : Array Bool} (hc : ∀ (j : Nat) (oj : Oper), ops[j]? = some oj → listed.getD j false = true → ∀ e ∈ oj.after, Region.binds md e = true → listed.getD e.on false = true) {o : Oper} {j : Nat} (h : Reach md ops o j) :
    (∀ e ∈ o.after, Region.binds md e = true → listed.getD e.on false = true) → listed.getD j false = true := by
  induction h with
  | one he hb hj => intro ha; rw [← hj]; exact ha _ he hb
  | step he hb hk _ ih => intro ha; exact ih (hc _ _ hk (ha _ he hb))

/-- WHATEVER ORDER IS DRAWN -/
theorem wpAny_laxF {md : Region.Mode} {Q' : Exit → Act → World → Prop} (hC : ∀ w w', C w → Below w.heap.size w w' → C w') {a0 : Act} {S : Nat → Lx × Act} (hS0 : S 0 = ([], a0))
    {n : Nat} (hn : n ≤ ops.size) (hst : ∀ (k : Nat) (o : Oper), k < n → ops[k]? = some o → StepT P ops C o (S k).1 (S k).2 (S (k + 1)).1 (S (k + 1)).2)
    (hin : ∀ (k : Nat) (o : Oper) (d : Tmp), ops[k]? = some o → o.dst = some d → d < a0.tmps.size)
    (hone : ∀ (j k : Nat) (x y : Oper) (d : Tmp), ops[j]? = some x → ops[k]? = some y → x.dst = some d → y.dst = some d → j = k)
    (hlex : ∀ (i : Nat) (oi : Oper), ops[i]? = some oi → (∀ e ∈ oi.after, Region.binds md e = true → e.on < i) ∧ ∀ j oj, i < j → ops[j]? = some oj → (∃ e ∈ oj.after, Region.binds md e = true ∧ e.on = i) ∨ oi.apart ops oj = true)
    (F : List Tmp) (ob : Obj) (hF : ∀ (i : Nat) (oi : Oper) (d : Tmp), ops[i]? = some oi → oi.dst = some d → d ∈ F → oi.guard = none ∧ ∀ a1 w K Q, oi.wp P a1 w K Q ↔ K (a1.put (some d) (.pointer (some ⟨w.heap.size, 0, none⟩))) (w.alloc ob))
    (hwait : ∀ (i : Nat) (oi : Oper), n ≤ i → ops[i]? = some oi → ∀ j, j < n → Reach md ops oi j)
    (hfin : ∀ (fuel : Nat) (listed : Array Bool) (a1 : Act) (w1 : World), (∃ s, (List.range ops.size).filter (fun i => !listed.getD i true) = s ∧ s.length = fuel) → listed.size = ops.size → (∀ i, i < n → listed.getD i true = true) → (∀ j, n ≤ j → j < ops.size → listed.getD j true = false) → Rep C (S n).1 (S n).2 a1 w1 → Fresh ops F listed a1 w1 → wpAny P md ops Q' fuel listed a1 w1) :
    ∀ (fuel : Nat) (listed : Array Bool) (a1 : Act) (w1 : World), (∃ s, (List.range ops.size).filter (fun i => !listed.getD i true) = s ∧ s.length = fuel) → RunInv md n ops C a0 S listed a1 w1 → Fresh ops F listed a1 w1 → wpAny P md ops Q' fuel listed a1 w1 := by
  -- all that is not listed: none is ready only if none is left
  have hready : ∀ listed : Array Bool, listed.size = ops.size → Region.ready md ops listed = [] → ∀ i, i < ops.size → listed.getD i true = true := by
    intro listed hls hr i
    induction i using Nat.strongRecOn with
    | _ i ih =>
      intro hi
      rcases hb : listed.getD i true with _ | _
      · exfalso
        have : i ∈ Region.ready md ops listed := by
          refine mem_ready.2 ⟨hb, ops[i], Array.getElem?_eq_getElem hi, fun e he hbd => ?_⟩
          have h1 := (hlex i _ (Array.getElem?_eq_getElem hi)).1 e he hbd
          have h2 := ih e.on h1 (by omega)
          have h3 : e.on < listed.size := by omega
          simpa [h3] using h2
        rw [hr] at this
        cases this
      · rfl
  have hend : ∀ (fuel : Nat) (listed : Array Bool) (a1 : Act) (w1 : World), (∃ s, (List.range ops.size).filter (fun i => !listed.getD i true) = s ∧ s.length = fuel) → RunInv md n ops C a0 S listed a1 w1 → Fresh ops F listed a1 w1 → (∀ i, i < n → listed.getD i true = true) → wpAny P md ops Q' fuel listed a1 w1 := by
    intro fuel listed a1 w1 hcnt hI hJ hall
    have hsz := path_sizes hS0 hn hst n (Nat.le_refl _)
    refine hfin fuel listed a1 w1 hcnt hI.lsize hall hI.tail ⟨hI.world, hI.defers.trans hsz.2.symm, hI.size.trans hsz.1.symm, fun t => ?_⟩ hJ
    by_cases hw : ∃ (j : Nat) (oj : Oper), j < n ∧ ops[j]? = some oj ∧ oj.dst = some t
    · obtain ⟨j, oj, hjn, hj, hd⟩ := hw
      have hjl := (Array.getElem?_eq_some_iff.1 hj).1
      have hl : listed.getD j false = true := by
        have h1 := hall j hjn
        have h2 : j < listed.size := by rw [hI.lsize]; exact hjl
        simpa [h2] using h1
      have h1 := hI.done j oj t hj hl hd
      have h2 := path_other hS0 hn hst hin (t := t) (a1.tmps.getD t undef) w1 (j + 1) (n - (j + 1)) (by omega) (fun i oi h1 h2 hi hdi => by
        have := hone i j oi oj t hi hj hdi hd; omega)
      rw [show j + 1 + (n - (j + 1)) = n by omega] at h2
      exact h2.2 h1
    · have h1 := hI.rest t (fun j oj hj hl hd => by
        by_cases hjn : j < n
        · exact hw ⟨j, oj, hjn, hj, hd⟩
        · have hjl := (Array.getElem?_eq_some_iff.1 hj).1
          have := hI.tail j (by omega) hjl
          have h2 : j < listed.size := by rw [hI.lsize]; exact hjl
          simp [h2] at this hl
          rw [this] at hl; cases hl)
      have h2 := path_other hS0 hn hst hin (t := t) (a1.tmps.getD t undef) w1 0 n (by omega) (fun j oj _ h2 hj hd => hw ⟨j, oj, by omega, hj, hd⟩)
      rw [Nat.zero_add] at h2
      exact h2.2 ((slot0 hS0 t _ w1).2 h1)
  intro fuel
  induction fuel with
  | zero =>
    rintro listed a1 w1 ⟨s, hs, hlen⟩ hI hJ
    refine hend 0 listed a1 w1 ⟨s, hs, hlen⟩ hI hJ (fun i hi => ?_)
    have hnil : s = [] := List.eq_nil_of_length_eq_zero hlen
    subst hnil
    have := List.filter_eq_nil_iff.1 hs i (List.mem_range.2 (by omega))
    simpa using this
  | succ fuel ih =>
    rintro listed a1 w1 ⟨s, hs, hlen⟩ hI hJ
    by_cases hdone : ∀ i, i < n → listed.getD i true = true
    · exact hend (fuel + 1) listed a1 w1 ⟨s, hs, hlen⟩ hI hJ hdone
    refine ⟨fun h0 => absurd (fun i hi => hready listed hI.lsize h0 i (by omega)) hdone, fun i hi => ?_⟩
    obtain ⟨hun, oi, hoi, hall⟩ := mem_ready.1 hi
    have hin' : i < n := by
      rcases Nat.lt_or_ge i n with h | h
      · exact h
      · exfalso
        refine hdone (fun j hj => ?_)
        have h2 : j < listed.size := by rw [hI.lsize]; omega
        have h1 := (hwait i oi h hoi j hj).listed hI.closed hall
        simpa [h2] using h1
    have hil := (Array.getElem?_eq_some_iff.1 hoi).1
    have hill : i < listed.size := by rw [hI.lsize]; exact hil
    have hunf : listed.getD i false = false := by simpa [hill] using hun
    have hcount : ∃ s', (List.range ops.size).filter (fun j => !(listed.setIfInBounds i true).getD j true) = s' ∧ s'.length = fuel := by
      refine ⟨_, rfl, ?_⟩
      have hn : (List.range ops.size).Nodup := List.nodup_range
      have e : (List.range ops.size).filter (fun j => !(listed.setIfInBounds i true).getD j true) = ((List.range ops.size).filter fun j => !listed.getD j true).erase i := by
        rw [List.Nodup.erase_eq_filter (List.Pairwise.filter _ hn), List.filter_filter]
        apply List.filter_congr
        intro j hj
        by_cases hji : j = i
        · subst hji; simp [hill]
        · rw [getD_set_ne true (Ne.symm hji)]; simp [hji]
      rw [e, List.length_erase_of_mem (List.mem_filter.2 ⟨List.mem_range.2 hil, by simp only [hun]; rfl⟩), hs, hlen]
      rfl
    -- what the operation looks at is as the walk had it
    have hlook : ∀ t ∈ oi.looksAt ops, slotIs (S i).1 (S i).2 t (a1.tmps.getD t undef) w1 := by
      intro t ht
      have hback : (∀ (j : Nat) (oj : Oper), ops[j]? = some oj → oj.dst = some t → i ≤ j) → (∀ (j : Nat) (oj : Oper), ops[j]? = some oj → oj.dst = some t → listed.getD j false = false) → slotIs (S i).1 (S i).2 t (a1.tmps.getD t undef) w1 := by
        intro h1 h2
        have h3 := path_other hS0 hn hst hin (t := t) (a1.tmps.getD t undef) w1 0 i (by omega) (fun j oj _ hj ho hd => by have := h1 j oj ho hd; omega)
        rw [Nat.zero_add] at h3
        refine h3.2 ((slot0 hS0 t _ w1).2 (hI.rest t (fun j oj hj hl hd => ?_)))
        rw [h2 j oj hj hd] at hl; cases hl
      by_cases hw : ∃ (j : Nat) (oj : Oper), ops[j]? = some oj ∧ oj.dst = some t
      · obtain ⟨j, oj, hj, hd⟩ := hw
        have huniq : ∀ (j' : Nat) (oj' : Oper), ops[j']? = some oj' → oj'.dst = some t → j' = j := fun j' oj' h1 h2 => hone j' j oj' oj t h1 hj h2 hd
        rcases Nat.lt_trichotomy j i with hji | hji | hji
        · rcases (hlex j oj hj).2 i oi hji hoi with ⟨e, he, hb, heq⟩ | hap
          · have hl : listed.getD j false = true := by rw [← heq]; exact hall e he hb
            have h1 := hI.done j oj t hj hl hd
            have h2 := path_other hS0 hn hst hin (t := t) (a1.tmps.getD t undef) w1 (j + 1) (i - (j + 1)) (by omega) (fun j' oj' h1 _ h3 h4 => by have := huniq j' oj' h3 h4; omega)
            rw [show j + 1 + (i - (j + 1)) = i by omega] at h2
            exact h2.2 h1
          · exact absurd ht ((Oper.apart_spec hap).1 t hd)
        · subst hji
          refine hback (fun j' oj' h1 h2 => by have := huniq j' oj' h1 h2; omega) (fun j' oj' h1 h2 => by rw [huniq j' oj' h1 h2]; exact hunf)
        · rcases (hlex i oi hoi).2 j oj hji hj with ⟨e, he, hb, heq⟩ | hap
          · refine hback (fun j' oj' h1 h2 => by have := huniq j' oj' h1 h2; omega) (fun j' oj' h1 h2 => ?_)
            rw [huniq j' oj' h1 h2]
            rcases hlj : listed.getD j false with _ | _
            · rfl
            · have := hI.closed j oj hj hlj e he hb
              rw [heq, hunf] at this; cases this
          · exact absurd ht ((Oper.apart_spec hap).2.2 t hd)
      · exact hback (fun j oj h1 h2 => absurd ⟨j, oj, h1, h2⟩ hw) (fun j oj h1 h2 => absurd ⟨j, oj, h1, h2⟩ hw)
    have hsz := path_sizes hS0 hn hst i (by omega)
    have hsame : a1.tmps.size = (S i).2.tmps.size := hI.size.trans hsz.1.symm
    -- behind it
    have hnext : ∀ (v : Value) (w' : World), (∀ d, oi.dst = some d → slotIs (S (i + 1)).1 (S (i + 1)).2 d v w') → Below w1.heap.size w1 w' → RunInv md n ops C a0 S (listed.setIfInBounds i true) (a1.put oi.dst v) w' := by
      intro v w' hv hb
      have hget : ∀ t, oi.dst ≠ some t → (a1.put oi.dst v).tmps.getD t undef = a1.tmps.getD t undef := by
        intro t ht
        cases hd : oi.dst with
        | none => rfl
        | some d => rw [put_getD a1 d t v (by rw [hI.size]; exact hin i oi d hoi hd), if_neg (fun e => ht (by rw [hd, e]))]
      have hlist : ∀ j, (listed.setIfInBounds i true).getD j false = true → j = i ∨ listed.getD j false = true := by
        intro j hj
        by_cases hji : j = i
        · exact .inl hji
        · rw [getD_set_ne false (Ne.symm hji)] at hj; exact .inr hj
      refine ⟨hC _ _ hI.world hb, (put_defers _ _ _).trans hI.defers, (put_size _ _ _).trans hI.size, by simpa using hI.lsize, fun j oj hj hl e he hbd => ?_, fun j hnj hjl => ?_, fun j oj d hj hl hd => ?_, fun t ht => ?_⟩
      · rcases hlist j hl with rfl | hl
        · obtain rfl : oj = oi := by rw [hoi] at hj; simpa using hj.symm
          exact getD_set_true (hall e he hbd)
        · exact getD_set_true (hI.closed j oj hj hl e he hbd)
      · rw [getD_set_ne true (by omega)]; exact hI.tail _ hnj hjl
      · rcases hlist j hl with rfl | hl
        · obtain rfl : oj = oi := by rw [hoi] at hj; simpa using hj.symm
          rw [hd, put_getD a1 d d v (by rw [hI.size]; exact hin j oj d hj hd), if_pos rfl]
          exact hv d hd
        · have hne : oi.dst ≠ some d := by
            intro h
            have := hone i j oi oj d hoi hj h hd
            subst this
            rw [hunf] at hl; cases hl
          rw [hget d hne]
          exact (hI.done j oj d hj hl hd).keep hb
      · have hne : oi.dst ≠ some t := ht i oi hoi (by simp [hill])
        rw [hget t hne]
        exact hI.rest t (fun j oj hj hl => ht j oj hj (getD_set_true hl))
    have hlistF : ∀ j, (listed.setIfInBounds i true).getD j false = true → j = i ∨ listed.getD j false = true := by
      intro j hj
      by_cases hji : j = i
      · exact .inl hji
      · rw [getD_set_ne false (Ne.symm hji)] at hj; exact .inr hj
    have hfresh : ∀ (v : Value) (w' : World), (∀ d, oi.dst = some d → d ∈ F → v = .pointer (some ⟨w1.heap.size, 0, none⟩) ∧ w1.heap.size < w'.heap.size) → Below w1.heap.size w1 w' → Fresh ops F (listed.setIfInBounds i true) (a1.put oi.dst v) w' := by
      intro v w' hv hb
      have hget : ∀ t, oi.dst ≠ some t → (a1.put oi.dst v).tmps.getD t undef = a1.tmps.getD t undef := by
        intro t ht
        cases hd : oi.dst with
        | none => rfl
        | some d => rw [put_getD a1 d t v (by rw [hI.size]; exact hin i oi d hoi hd), if_neg (fun e => ht (by rw [hd, e]))]
      have hself : ∀ d, oi.dst = some d → (a1.put oi.dst v).tmps.getD d undef = v := by
        intro d hd
        rw [hd, put_getD a1 d d v (by rw [hI.size]; exact hin i oi d hoi hd), if_pos rfl]
      have hother : ∀ (j : Nat) (oj : Oper) (d : Tmp), ops[j]? = some oj → oj.dst = some d → j ≠ i → oi.dst ≠ some d := fun j oj d hj hd hji h => hji (hone j i oj oi d hj hoi hd h)
      refine ⟨fun j oj d hj hl hd hdF => ?_, fun j k oj ok d d' hj hk hlj hlk hd hd' hdF hdF' hne => ?_⟩
      · by_cases hji : j = i
        · subst hji
          obtain rfl : oj = oi := by rw [hoi] at hj; simpa using hj.symm
          obtain ⟨h1, h2⟩ := hv d hd hdF
          exact ⟨_, (hself d hd).trans h1, h2⟩
        · obtain ⟨bk, h1, h2⟩ := hJ.1 j oj d hj ((hlistF j hl).resolve_left hji) hd hdF
          exact ⟨bk, (hget d (hother j oj d hj hd hji)).trans h1, Nat.lt_of_lt_of_le h2 hb.size⟩
      · by_cases hji : j = i
        · subst hji
          obtain rfl : oj = oi := by rw [hoi] at hj; simpa using hj.symm
          have hki : k ≠ j := fun e => by
            subst e
            obtain rfl : ok = oj := by rw [hoi] at hk; simpa using hk.symm
            rw [hd] at hd'
            exact hne (by simpa using hd')
          obtain ⟨bk, h1, h2⟩ := hJ.1 k ok d' hk ((hlistF k hlk).resolve_left hki) hd' hdF'
          rw [hself d hd, hget d' (hother k ok d' hk hd' hki), h1, (hv d hd hdF).1]
          intro e
          simp at e
        · by_cases hki : k = i
          · subst hki
            obtain rfl : ok = oi := by rw [hoi] at hk; simpa using hk.symm
            obtain ⟨bk, h1, h2⟩ := hJ.1 j oj d hj ((hlistF j hlj).resolve_left hji) hd hdF
            rw [hself d' hd', hget d (hother j oj d hj hd hji), h1, (hv d' hd' hdF').1]
            intro e
            simp at e
          · rw [hget d (hother j oj d hj hd hji), hget d' (hother k ok d' hk hd' hki)]
            exact hJ.2 j k oj ok d d' hj hk ((hlistF j hlj).resolve_left hji) ((hlistF k hlk).resolve_left hki) hd hd' hdF hdF' hne
    have hkey : ∀ d, oi.dst = some d → (S i).1.lookup d = none := fun d hd => path_keys hS0 hn hst i (by omega) (fun j oj h1 h2 h3 => by have := hone j i oj oi d h2 hoi h3 hd; omega)
    have hstep := hst i oi hin' hoi
    unfold wpOp
    simp only [hoi]
    generalize hSi : S i = si at *
    generalize hSj : S (i + 1) = sj at *
    obtain ⟨Ii, ai⟩ := si
    obtain ⟨Ij, aj⟩ := sj
    simp only at hstep hlook hnext hsame hkey
    cases hstep with
    | skip hg hw =>
      rw [wanted_looks hg hsame hlook, hw]
      simp only [Bool.false_eq_true, if_false]
      refine ih _ _ _ hcount (hnext undef w1 (fun d hd => ?_) (Below.refl _ _)) (hfresh undef w1 (fun d hd hdF => ?_) (Below.refl _ _))
      · unfold slotIs
        rw [hkey d hd, hd]
        simp only
        rw [put_getD ai d d undef (by rw [← hsame, hI.size]; exact hin i oi d hoi hd), if_pos rfl]
      · have h1 := (hF i oi d hoi hd hdF).1
        unfold Region.wanted at hw
        rw [h1] at hw
        cases hw
    | val v hg hw h =>
      rw [wanted_looks hg hsame hlook, hw]
      simp only [if_true]
      refine .inl (with_fresh hI.size hin hoi hF (h a1 w1 hI.world hlook) (fun u w' hu hb hv => ih _ _ _ hcount (hnext u w' (fun d hd => ?_) hb) (hfresh u w' hv hb)))
      unfold slotIs
      rw [hkey d hd, hd]
      simp only
      rw [put_getD ai d d v (by rw [← hsame, hI.size]; exact hin i oi d hoi hd), if_pos rfl]
      exact hu
    | ty d R hd hg hw h =>
      rw [wanted_looks hg hsame hlook, hw]
      simp only [if_true]
      refine .inl (with_fresh hI.size hin hoi hF (h a1 w1 hI.world hlook) (fun u w' hu hb hv => ih _ _ _ hcount (hnext u w' (fun d' hd' => ?_) hb) (hfresh u w' hv hb)))
      obtain rfl : d = d' := by rw [hd] at hd'; simpa using hd'
      unfold slotIs
      rw [List.lookup_cons]
      simp only [BEq.rfl]
      exact hu

theorem rep_no (m j : Nat) (hl : (Array.replicate m false).getD j false = true) : False := by
  by_cases hi : j < m <;> simp [hi] at hl

/-- operations in one forced order, one behind the other -/
theorem tail_any {md : Region.Mode} {Q : Exit → Act → World → Prop} {l : List Oper} {n : Nat} (hlt : ∀ (i : Nat) (oi : Oper), l.toArray[i]? = some oi → ∀ e ∈ oi.after, Region.binds md e = true → e.on < i)
    (hch : ∀ (m i : Nat) (oi : Oper), n ≤ m → m < i → l.toArray[i]? = some oi → ∃ e ∈ oi.after, Region.binds md e = true ∧ e.on = m) :
    ∀ (r m : Nat) (listed : Array Bool) (a1 : Act) (w1 : World), m + r = l.length → n ≤ m → listed.size = l.toArray.size → (∀ i, i < m → listed.getD i true = true) → (∀ j, m ≤ j → j < l.toArray.size → listed.getD j true = false) →
      wpList P l.toArray Q (l.drop m) a1 w1 → wpAny P md l.toArray Q r listed a1 w1
  | 0, m, listed, a1, w1, hm, hnm, hls, hall, htail, hq => by
    have hnr : Region.ready md l.toArray listed = [] := by
      apply List.eq_nil_iff_forall_not_mem.2
      intro i hi
      obtain ⟨h0, o, ho, _⟩ := mem_ready.1 hi
      have h1 := (Array.getElem?_eq_some_iff.1 ho).1
      have := hall i (by simp at h1; omega)
      rw [this] at h0; cases h0
    rw [List.drop_eq_nil_of_le (by omega)] at hq
    exact wpAny_done hnr hq 0
  | r + 1, m, listed, a1, w1, hm, hnm, hls, hall, htail, hq => by
    have hml : m < l.length := by omega
    obtain ⟨o, ho⟩ : ∃ o, l[m]? = some o := ⟨l[m], by simp [hml]⟩
    have hon : l.toArray[m]? = some o := by simpa using ho
    have hdrop : l.drop m = o :: l.drop (m + 1) := by
      rw [List.drop_eq_getElem_cons hml]
      rw [List.getElem?_eq_getElem hml] at ho
      rw [Option.some.inj ho]
    rw [hdrop] at hq
    have hnl : listed.getD m true = false := htail m (Nat.le_refl _) (by simpa using hml)
    refine ⟨fun h0 => ?_, fun i hi => ?_⟩
    · exfalso
      have : m ∈ Region.ready md l.toArray listed := by
        refine mem_ready.2 ⟨hnl, o, hon, fun e he hb => ?_⟩
        have h1 := hlt m o hon e he hb
        have h2 := hall e.on h1
        have h3 : e.on < listed.size := by rw [hls]; simp; omega
        simpa [h3] using h2
      rw [h0] at this; cases this
    · obtain ⟨hun, oi, hoi, hal⟩ := mem_ready.1 hi
      have hil := (Array.getElem?_eq_some_iff.1 hoi).1
      obtain rfl : i = m := by
        rcases Nat.lt_trichotomy i m with h1 | h1 | h1
        · rw [hall i h1] at hun; cases hun
        · exact h1
        · exfalso
          obtain ⟨e, he, hb, heq⟩ := hch m i oi hnm h1 hoi
          have h2 := hal e he hb
          rw [heq] at h2
          have h3 : m < listed.size := by rw [hls]; simp; omega
          simp [h3] at h2 hnl
          rw [h2] at hnl; cases hnl
      have hmono : ∀ a2 w2, wpList P l.toArray Q (l.drop (i + 1)) a2 w2 → wpAny P md l.toArray Q r (listed.setIfInBounds i true) a2 w2 := fun a2 w2 h2 =>
        tail_any hlt hch r (i + 1) _ a2 w2 (by omega) (by omega) (by simpa using hls) (fun j hj => by
          by_cases hji : j = i
          · subst hji
            have h3 : j < listed.size := by rw [hls]; exact hil
            simp [h3]
          · rw [getD_set_ne true (Ne.symm hji)]; exact hall j (by omega)) (fun j hj hjl => by
          rw [getD_set_ne true (by omega)]; exact htail j (by omega) hjl) h2
      unfold wpOp
      simp only [hon]
      unfold wpList at hq
      split
      · rename_i hw
        rw [if_pos hw] at hq
        exact hq.imp (Oper.wp_mono hmono) (fun h => h)
      · rename_i hw
        rw [if_neg hw] at hq
        exact hmono _ _ hq

/-- the operations from n on wait for all before n (some by way of others), and each for the one ahead of it -/
def reachB (l : List Oper) : Nat → Oper → Nat → Bool
  | 0, _, _ => false
  | f + 1, o, j => o.after.any fun e => Region.binds .any e && (e.on == j || match l[e.on]? with
      | some o2 => reachB l f o2 j
      | none => false)
theorem reachB_is {l : List Oper} : ∀ (f : Nat) (o : Oper) (j : Nat), reachB l f o j = true → Reach .any l.toArray o j
  | 0, _, _, h => by cases h
  | f + 1, o, j, h => by
    unfold reachB at h
    obtain ⟨e, he, hb⟩ := Array.any_eq_true'.1 h
    simp only [Bool.and_eq_true, Bool.or_eq_true, beq_iff_eq] at hb
    rcases hb.2 with h1 | h1
    · exact .one he hb.1 h1
    · split at h1
      · rename_i o2 ho2
        exact .step he hb.1 (by simpa using ho2) (reachB_is f o2 j h1)
      · cases h1
def waitsFB (l : List Oper) (n : Nat) : Bool := (List.range l.length).all fun i => decide (i < n) || match l[i]? with
  | some o => ((List.range n).all fun j => reachB l 12 o j) && (List.range i).all fun m => decide (m < n) || o.after.any fun e => Region.binds .any e && e.on == m
  | none => false

/-- THE REGION: all but the last ones by the walk, whose new blocks are apart; then the last ones -/
theorem wp_region_laxF {id : Nat} {Q : Exit → Act → World → Prop} {a : Act} {w : World} {l : List Oper} (n : Nat) (hn : n ≤ l.length) (F : List Tmp) (ob : Obj)
    (hF : ∀ (i : Nat) (oi : Oper) (d : Tmp), l[i]? = some oi → oi.dst = some d → d ∈ F → oi.guard = none ∧ ∀ a1 w K Q, oi.wp P a1 w K Q ↔ K (a1.put (some d) (.pointer (some ⟨w.heap.size, 0, none⟩))) (w.alloc ob))
    (hFn : ∀ (i : Nat) (oi : Oper) (d : Tmp), l[i]? = some oi → oi.dst = some d → d ∈ F → i < n) (hFa : ∀ d ∈ F, ∃ (i : Nat) (oi : Oper), l[i]? = some oi ∧ oi.dst = some d)
    (hm : P.follows .mixedOrders = true) (hB : Region.lexB .any l.toArray = true) (hD : dstsB l a.tmps.size = true) (hW : waitsFB l n = true)
    (h : wpT P l.toArray (Below w.heap.size w) (fun a' w' => (∀ d d', d ∈ F → d' ∈ F → d ≠ d' → a'.tmps.getD d undef ≠ a'.tmps.getD d' undef) → wpList P l.toArray Q (l.drop n) a' w') (l.take n) [] a) : (Code.region id l.toArray true).wp P Q a w := by
  obtain ⟨S, hS0, hst, hfin⟩ := wpT_path (l.take n) [] a h
  have hB' : Region.lexFrom .any l.toArray l.toArray.size 0 (Array.replicate l.toArray.size false) = true := by
    simp only [Region.lexB, Bool.and_eq_true] at hB; exact hB.2
  have hlen : (l.take n).length = n := by rw [List.length_take]; omega
  have hlex : ∀ (i : Nat) (oi : Oper), l.toArray[i]? = some oi → (∀ e ∈ oi.after, Region.binds .any e = true → e.on < i) ∧ ∀ j oj, i < j → l.toArray[j]? = some oj → (∃ e ∈ oj.after, Region.binds .any e = true ∧ e.on = i) ∨ oi.apart l.toArray oj = true :=
    fun i oi hi => lexFrom_free _ 0 _ hB' (by simp) (fun i => by by_cases hi : i < l.length <;> simp [hi]; omega) (by simp) i oi (Nat.zero_le _) hi
  have hW' : ∀ (i : Nat) (oi : Oper), n ≤ i → l[i]? = some oi → (∀ j, j < n → Reach .any l.toArray oi j) ∧ ∀ m, n ≤ m → m < i → ∃ e ∈ oi.after, Region.binds .any e = true ∧ e.on = m := by
    intro i oi hi hoi
    have hil := (List.getElem?_eq_some_iff.1 hoi).1
    unfold waitsFB at hW
    have h1 := List.all_eq_true.1 hW i (List.mem_range.2 hil)
    rw [hoi] at h1
    simp only [Bool.or_eq_true, decide_eq_true_eq, Bool.and_eq_true] at h1
    rcases h1 with h1 | ⟨h1, h2⟩
    · omega
    refine ⟨fun j hj => reachB_is _ _ _ (List.all_eq_true.1 h1 j (List.mem_range.2 hj)), fun m hm1 hm2 => ?_⟩
    · have := List.all_eq_true.1 h2 m (List.mem_range.2 hm2)
      simp only [Bool.or_eq_true, decide_eq_true_eq] at this
      rcases this with h3 | h3
      · omega
      obtain ⟨e, he, hb⟩ := Array.any_eq_true'.1 h3
      simp only [Bool.and_eq_true, beq_iff_eq] at hb
      exact ⟨e, he, hb.1, hb.2⟩
  refine wp_region_any hm ?_
  refine wpAny_laxF (P := P) (ops := l.toArray) (C := Below w.heap.size w) (md := .any) (a0 := a) (S := S) (fun w1 w2 h1 h2 => h1.trans (h2.mono h1.size)) hS0 (n := n) (by simpa using hn) (fun k o' hk ho' => hst k o' (by rw [List.getElem?_take_of_lt hk]; simpa using ho'))
    (fun k o d hk hd => dsts_lt hD (k := k) (by simpa using hk) hd) (fun j k x y d hj hk hx hy => dsts_one hD (j := j) (k := k) (by simpa using hj) (by simpa using hk) hx hy)
    hlex F ob (fun i oi d hi => hF i oi d (by simpa using hi)) (fun i oi hi hoi j hj => ?_)
    (fun fuel listed a1 w1 ⟨s, hs, hcnt⟩ hls hall htail hr hfr => ?_) _ _ _ _ ⟨_, rfl, ?_⟩ (start_inv ⟨rfl, rfl, rfl, Nat.le_refl _, fun _ _ => rfl⟩) ⟨fun j oj d hj hl => ?_, fun j k oj ok d d' hj hk hl => ?_⟩
  · exact (hW' i oi hi (by simpa using hoi)).1 j hj
  · have hq := hfin a1 w1 (by rw [hlen]; exact hr) (fun d d' hd hd' hne => by
      obtain ⟨i, oi, hoi, hdi⟩ := hFa d hd
      obtain ⟨k, ok, hok, hdk⟩ := hFa d' hd'
      have g : ∀ (i : Nat) (oi : Oper) (d : Tmp), l[i]? = some oi → oi.dst = some d → d ∈ F → listed.getD i false = true := by
        intro i oi d h1 h2 h3
        have h4 := hall i (hFn i oi d h1 h2 h3)
        have h5 : i < listed.size := by rw [hls]; simpa using (List.getElem?_eq_some_iff.1 h1).1
        simpa [h5] using h4
      exact hfr.2 i k oi ok d d' (by simpa using hoi) (by simpa using hok) (g i oi d hoi hdi hd) (g k ok d' hok hdk hd') hdi hdk hd hd' hne)
    have hfuel : fuel = l.length - n := by
      rw [← hcnt, ← hs]
      have : (List.range l.toArray.size).filter (fun i => !listed.getD i true) = (List.range (l.length - n)).map (n + ·) := by
        have e : l.toArray.size = n + (l.length - n) := by simp; omega
        rw [e, List.range_add, List.filter_append]
        have h1 : (List.range n).filter (fun i => !listed.getD i true) = [] := by
          apply List.filter_eq_nil_iff.2
          intro i hi
          rw [hall i (List.mem_range.1 hi)]
          simp
        have h2 : ((List.range (l.length - n)).map (n + ·)).filter (fun i => !listed.getD i true) = (List.range (l.length - n)).map (n + ·) := by
          apply List.filter_eq_self.2
          intro i hi
          obtain ⟨k, hk, rfl⟩ := List.mem_map.1 hi
          have := List.mem_range.1 hk
          rw [htail (n + k) (by omega) (by omega)]
          rfl
        rw [h1, h2, List.nil_append]
      rw [this]; simp
    rw [hfuel]
    exact tail_any (n := n) (fun i oi hi => (hlex i oi hi).1) (fun m i oi h1 h2 hoi => (hW' i oi (by omega) (by simpa using hoi)).2 m h1 h2) _ n listed a1 w1 (by omega) (Nat.le_refl _) hls hall htail hq
  · rw [count_none]; simp
  · exact (rep_no _ _ hl).elim
  · exact (rep_no _ _ hl).elim

/-- no new blocks: the last operations wait for all others, some by way of another; at the end 'intro _' -/
theorem wp_laxW_list {id : Nat} {Q : Exit → Act → World → Prop} {w : World} {l : List Oper} {fs : List Value} {ds : List Deferred} (n : Nat) (hn : decide (n ≤ l.length) = true)
    (hm : P.follows .mixedOrders = true) (hB : Region.lexB .any l.toArray = true) (hD : dstsB l fs.length = true) (hW : waitsFB l n = true)
    (h : wpL P l.toArray (Below w.heap.size w) (fun a' w' => (∀ d d', d ∈ ([] : List Tmp) → d' ∈ ([] : List Tmp) → d ≠ d' → a'.tmps.getD d undef ≠ a'.tmps.getD d' undef) → wpList P l.toArray Q (l.drop n) a' w') ds (l.take n) [] fs) : (Code.region id l.toArray true).wp P Q ⟨fs.toArray, ds⟩ w :=
  wp_region_laxF n (of_decide_eq_true hn) [] (.cells #[] 0) (fun _ _ _ _ _ h => by cases h) (fun _ _ _ _ _ h => by cases h) (fun _ h => by cases h) hm hB (by simpa using hD) hW h
end
end Go.Own

end
section
namespace Go.Proofs.Ytlgfddpgmpabcaa
open Go.RowKit Go.Own
namespace Tab
open Go.TabM
abbrev ptr (p : Nat) : Value := .pointer (some ⟨p, 0, none⟩)
abbrev errT (n : Nat) : Value := .int .i64 (n : Int)
abbrev sgC (s : Sg) : List Value := [.int .u8 (s.kind : Int), .int .u64 (s.seq : Int), .int .u32 (s.wear : Int)]
theorem sgC_len (l : List Sg) : ∀ a ∈ l, (sgC a).length = 3 := fun _ _ => rfl
/-- a row of segments -/
abbrev RowG (v : Value) (rows : List Sg) : Asn := ARow 44 3 v rows.length (rows.flatMap sgC)
abbrev tabC (v : Value) (t : T) : List Value := [v, .int .u64 (t.next : Int)]
/-- the document's table at q, its rows at v -/
def ARefT (q : Nat) (v : Value) (t : T) : Asn := AJoin [AVals q 63 (tabC v t), RowG v t.rows]
theorem flat_set (l : List Sg) (j k : Nat) (s : Sg) (u : Value) (hj : j < l.length) (hk : k < 3) (he : (sgC (at_ l j)).set k u = sgC s) : (l.flatMap sgC).set (j * 3 + k) u = (l.set j s).flatMap sgC := by
  induction l generalizing j with
  | nil => simp at hj
  | cons x l ih =>
    cases j with
    | zero =>
      rw [Nat.zero_mul, Nat.zero_add, List.flatMap_cons, List.set_append_left _ _ (by simpa using hk), List.set_cons_zero, List.flatMap_cons]
      congr 1
    | succ j =>
      rw [List.flatMap_cons, List.set_append_right _ _ (by show 3 ≤ _; omega), List.set_cons_succ, List.flatMap_cons]
      congr 1
      rw [← ih j (by simpa using hj) he]
      congr 1
      show (j + 1) * 3 + k - 3 = _
      omega
section
variable {B : Nat} {w0 w : World} {Ps : List Asn} {q : Nat} {v : Value} {t : T}
theorem ref_open (h : Own.St B w0 w (ARefT q v t :: Ps)) : Own.St B w0 w (AVals q 63 (tabC v t) :: RowG v t.rows :: Ps) := h.openJ
theorem ref_close (h : Own.St B w0 w (AVals q 63 (tabC v t) :: RowG v t.rows :: Ps)) : Own.St B w0 w (ARefT q v t :: Ps) := Own.St.closeJ (Qs := [_, _]) h
/-- one segment of a row -/
structure At (w : World) (g j : Nat) (s : Sg) : Prop where
  c0 : w.cell? ⟨g, j * 3, none⟩ = some (.int .u8 (s.kind : Int))
  c1 : w.cell? ⟨g, j * 3 + 1, none⟩ = some (.int .u64 (s.seq : Int))
  c2 : w.cell? ⟨g, j * 3 + 2, none⟩ = some (.int .u32 (s.wear : Int))
theorem rowG_at {rows : List Sg} (H : Own.St B w0 w Ps) (i : Nat) (hi : Ps[i]? = some (RowG v rows)) (j : Nat) (hj : j < rows.length) :
    ∃ g c, v = .slice (some ⟨g, 0, none⟩) rows.length c ∧ At w g j (at_ rows j) := by
  obtain ⟨ao, c, rfl⟩ := H.rowForm i hi
  have f := fun k hk => flat_at sgC 3 rows (sgC_len rows) j (at_ rows j) (at_get hj) k hk
  obtain ⟨g, rfl, ⟨u0, h0, c0⟩, _, _⟩ := H.rowAt i hi (j * 3 + 0) (by omega)
  obtain ⟨g1, e1, ⟨u1, h1, c1⟩, _, _⟩ := H.rowAt i hi (j * 3 + 1) (by omega)
  cases e1
  obtain ⟨g2, e2, ⟨u2, h2, c2⟩, _, _⟩ := H.rowAt i hi (j * 3 + 2) (by omega)
  cases e2
  rw [f 0 (by omega)] at h0; cases h0
  rw [f 1 (by omega)] at h1; cases h1
  rw [f 2 (by omega)] at h2; cases h2
  exact ⟨g, c, rfl, c0, c1, c2⟩
/-- a cell of a segment is stored -/
theorem rowG_set {rows : List Sg} {g c : Nat} (H : Own.St B w0 w Ps) (i : Nat) (hi : Ps[i]? = some (RowG (.slice (some ⟨g, 0, none⟩) rows.length c) rows)) (j k : Nat) (s : Sg) (u : Value) (hj : j < rows.length) (hk : k < 3) (he : (sgC (at_ rows j)).set k u = sgC s) :
    w.frozen? ⟨g, j * 3 + k, none⟩ = false ∧ Own.St B w0 (w.setCell ⟨g, j * 3 + k, none⟩ u) (Ps.set i (RowG (.slice (some ⟨g, 0, none⟩) rows.length c) (rows.set j s))) := by
  obtain ⟨g1, e1, _, fz, put⟩ := H.rowAt i hi (j * 3 + k) (by omega)
  cases e1
  refine ⟨fz, ?_⟩
  have h := put u
  rw [flat_set rows j k s u hj hk he] at h
  rw [show RowG (.slice (some ⟨g, 0, none⟩) rows.length c) (rows.set j s) = ARow 44 3 (.slice (some ⟨g, 0, none⟩) rows.length c) rows.length ((rows.set j s).flatMap sgC) by
    show ARow _ 3 _ (rows.set j s).length _ = _
    rw [List.length_set]]
  exact h
end
/-- what Current answers -/
def curV (t : T) : Value := .tuple #[.int .i64 (((cur t).getD 0 : Nat) : Int), .bool (cur t).isSome]
theorem cur_at (t : T) {i : Nat} (hi : i < t.rows.length) (h : cur t = curF i (t.rows.drop i)) : cur t = if (at_ t.rows i).kind = 1 then some i else curF (i + 1) (t.rows.drop (i + 1)) := by
  rw [h, List.drop_eq_getElem_cons hi, curF, at_lt hi]
theorem freeN_at (l : List Sg) {i : Nat} (hi : i < l.length) : (l.drop i).countP (fun s => decide (s.kind = 0)) = (l.drop (i + 1)).countP (fun s => decide (s.kind = 0)) + if (at_ l i).kind = 0 then 1 else 0 := by
  rw [List.drop_eq_getElem_cons hi, List.countP_cons, at_lt hi]
  simp
section
variable {B : Nat} {w0 w : World} {Ps : List Asn} {q : Nat} {v : Value} {t : T} {N : Nat}
set_option maxHeartbeats 1600000 in
theorem currentR_any (H : Own.St B w0 w (ARefT q v t :: Ps)) (ok : Ok t N) : Calls Try.prog 29 #[ptr q] w fun e w' => e = .returned (curV t) ∧ w' = w := by
  have h0 := ref_open H
  obtain ⟨ao, cap, rfl⟩ := h0.rowForm 1 rfl
  have H0 := Lib.hid h0
  have c0 := (H0.out.cellV 0 rfl 0 rfl).1
  have hlen := ok.len
  have HOK := Lib.hid ok
  obtain ⟨n, hn⟩ : ∃ n, n = t.rows.length := ⟨_, rfl⟩
  have HN := Lib.hid hn
  rw [← hn] at c0 hlen
  clear H h0 ok hn
  go_enter Try.func29, Try.ntmps29
  go_wp2
  go_loopw [4] (fun v4 wr => ∃ i : Nat, i ≤ n ∧ v4 = .int .i64 (i : Int) ∧ wr = w ∧ cur t = curF i (t.rows.drop i)) (fun v4 _ => n - (intOf v4).toNat)
  case atStart => exact ⟨0, Nat.zero_le _, rfl, rfl, rfl⟩
  case round =>
    obtain ⟨i, hin, rfl, hw, hc⟩ := hrel
    subst hw
    have HC := Lib.hid hc
    clear hc
    by_cases hi : (i : Int) < (n : Int)
    · have hil : i < t.rows.length := by rw [← HN.out]; omega
      obtain ⟨g, cc, e, ha⟩ := rowG_at H0.out 1 rfl i hil
      rw [← HN.out] at e
      simp only [Value.slice.injEq, true_and] at e
      obtain ⟨rfl, rfl⟩ := e
      have HCA := Lib.hid (cur_at t hil HC.out)
      obtain ⟨k, hk⟩ : ∃ k, k = (at_ t.rows i).kind := ⟨_, rfl⟩
      have a0 := ha.c0
      rw [← hk] at a0 HCA
      have hk2 : k ≤ 2 := by rw [hk]; exact HOK.out.kind _ (at_mem hil)
      clear ha hk hil
      by_cases h1 : k = 1
      · subst h1
        have HV : Hid (curV t = .tuple #[.int .i64 (i : Int), .bool true]) := by
          show _ = _
          unfold curV
          rw [HCA.out, if_pos rfl]
          rfl
        go_wp2
        go_ret2
        exact ⟨by rw [HV.out]; rfl, rfl⟩
      · have hb : ((k : Int) == 1) = false := by simp; omega
        have HC2 : Hid (cur t = curF (i + 1) (t.rows.drop (i + 1))) := by show _ = _; rw [HCA.out, if_neg h1]
        clear HCA h1
        go_wp2
        go_roundw
        case rel => exact ⟨i + 1, by omega, by go_num, trivial, HC2.out⟩
        case measure => simp [intOf]; omega
    · have HV : Hid (curV t = .tuple #[.int .i64 0, .bool false]) := by
        show _ = _
        unfold curV
        rw [HC.out, List.drop_of_length_le (by rw [← HN.out]; omega)]
        rfl
      go_wp2
      go_ret2
      exact ⟨by rw [HV.out]; rfl, rfl⟩

set_option maxHeartbeats 1600000 in
theorem freeR_any (H : Own.St B w0 w (ARefT q v t :: Ps)) (ok : Ok t N) : Calls Try.prog 30 #[ptr q] w fun e w' => e = .returned (.int .i64 (freeN t : Int)) ∧ w' = w := by
  have h0 := ref_open H
  obtain ⟨ao, cap, rfl⟩ := h0.rowForm 1 rfl
  have H0 := Lib.hid h0
  have c0 := (H0.out.cellV 0 rfl 0 rfl).1
  have hlen := ok.len
  have HOK := Lib.hid ok
  obtain ⟨n, hn⟩ : ∃ n, n = t.rows.length := ⟨_, rfl⟩
  have HN := Lib.hid hn
  rw [← hn] at c0 hlen
  obtain ⟨F, hF⟩ : ∃ F, F = freeN t := ⟨_, rfl⟩
  rw [← hF]
  have hF2 : F = (t.rows.drop 0).countP (fun s => decide (s.kind = 0)) := hF
  have HF := Lib.hid hF2
  clear H h0 ok hn hF hF2
  go_enter Try.func30, Try.ntmps30
  go_wp2
  go_loopw [3, 4] (fun v3 v4 wr => ∃ i m : Nat, i ≤ n ∧ m ≤ i ∧ v3 = .int .i64 (m : Int) ∧ v4 = .int .i64 (i : Int) ∧ wr = w ∧ F = m + (t.rows.drop i).countP (fun s => decide (s.kind = 0))) (fun _ v4 _ => n - (intOf v4).toNat)
  case atStart => exact ⟨0, 0, Nat.zero_le _, Nat.le_refl _, rfl, rfl, rfl, by rw [Nat.zero_add]; exact HF.out⟩
  case round =>
    obtain ⟨i, m, hin, hmi, rfl, rfl, hw, hc⟩ := hrel
    subst hw
    have HC := Lib.hid hc
    clear hc
    by_cases hi : (i : Int) < (n : Int)
    · have hil : i < t.rows.length := by rw [← HN.out]; omega
      obtain ⟨g, cc, e, ha⟩ := rowG_at H0.out 1 rfl i hil
      rw [← HN.out] at e
      simp only [Value.slice.injEq, true_and] at e
      obtain ⟨rfl, rfl⟩ := e
      have HCA := Lib.hid (freeN_at t.rows hil)
      obtain ⟨k, hk⟩ : ∃ k, k = (at_ t.rows i).kind := ⟨_, rfl⟩
      have a0 := ha.c0
      rw [← hk] at a0 HCA
      have hk2 : k ≤ 2 := by rw [hk]; exact HOK.out.kind _ (at_mem hil)
      clear ha hk hil
      by_cases h1 : k = 0
      · subst h1
        have HC2 : Hid (F = m + 1 + (t.rows.drop (i + 1)).countP (fun s => decide (s.kind = 0))) := by show _ = _; rw [HC.out, HCA.out, if_pos rfl]; omega
        clear HCA
        go_wp2
        go_roundw
        case rel => exact ⟨i + 1, m + 1, by omega, by omega, by go_num, by go_num, trivial, HC2.out⟩
        case measure => simp [intOf]; omega
      · have hb : ((k : Int) == 0) = false := by simp; omega
        have HC2 : Hid (F = m + (t.rows.drop (i + 1)).countP (fun s => decide (s.kind = 0))) := by show _ = _; rw [HC.out, HCA.out, if_neg h1]; rfl
        clear HCA h1
        go_wp2
        go_roundw
        case rel => exact ⟨i + 1, m, by omega, by omega, rfl, by go_num, trivial, HC2.out⟩
        case measure => simp [intOf]; omega
    · have hv : F = m := by
        rw [HC.out, List.drop_of_length_le (by rw [← HN.out]; omega)]
        rfl
      subst hv
      clear HC HF
      go_wp2
      go_ret
      exact ⟨rfl, rfl⟩
end
end Tab
end Go.Proofs.Ytlgfddpgmpabcaa

end
section
namespace Go.Proofs.Ytlgfddpgmpabcaa
open Go.RowKit Go.Own
namespace Tab
open Go.TabM
theorem manySeg : Many Try.prog 40 44 3 24 := ⟨Try.underlying40, by kernel_rfl, by decide⟩
theorem zero_seg : (Try.prog.info? 44).bind (·.zero) = some (.agg (sgC zS).toArray) := by kernel_rfl
theorem flat_fresh (n : Nat) : (List.replicate n (sgC zS)).flatten = (List.replicate n zS).flatMap sgC := by rw [List.flatMap_def, List.map_replicate]
section
variable {B : Nat} {w0 w : World} {Ps : List Asn} {q : Nat} {v : Value} {t : T} {N : Nat}
set_option maxHeartbeats 1600000 in
theorem newR_any (H : Own.St B w0 w Ps) (n : Int) (hn : -9223372036854775808 ≤ n ∧ n ≤ 9223372036854775807) :
    Calls Try.prog 11 #[.int .i64 n] w fun e w' => if mayBe n = true then ∃ q v, e = .returned (.tuple #[ptr q, errT 0]) ∧ Own.St B w0 w' (ARefT q v (fresh n.toNat) :: Ps) else e = .returned (.tuple #[.pointer none, errT 1]) ∧ w' = w := by
  by_cases h1 : n < 0
  · have hm : mayBe n = false := by unfold mayBe; simp; omega
    simp only [hm, Bool.false_eq_true, if_false]
    have d1 : decide (n < 0) = true := decide_eq_true h1
    go_enter Try.func11, Try.ntmps11
    go_wp2
    go_ret2
    exact ⟨rfl, rfl⟩
  have d1 : decide (n < 0) = false := decide_eq_false h1
  by_cases h2 : 256 < n
  · have hm : mayBe n = false := by unfold mayBe; simp; omega
    simp only [hm, Bool.false_eq_true, if_false]
    have d2 : decide (256 < n) = true := decide_eq_true h2
    go_enter Try.func11, Try.ntmps11
    go_wp2
    go_ret2
    exact ⟨rfl, rfl⟩
  have d2 : decide (256 < n) = false := decide_eq_false h2
  have hm : mayBe n = true := by unfold mayBe; simp; omega
  simp only [hm, if_true]
  obtain ⟨k, rfl⟩ := Int.eq_ofNat_of_zero_le (show 0 ≤ n by omega)
  obtain ⟨w2, g, hmk, hst⟩ := St.manyMake (zs := sgC zS) manySeg zero_seg rfl H .i64 .i64 k (by omega) (by decide)
  rw [flat_fresh] at hst
  obtain ⟨q, hq⟩ : ∃ b, b = w2.heap.size := ⟨_, rfl⟩
  have hbx := hst.boxV 63 (tabC (.slice (some ⟨g, 0, none⟩) k k) (fresh k))
  rw [← hq] at hbx
  have H9 : Hid (Own.St B w0 (w2.alloc (.cells #[.slice (some ⟨g, 0, none⟩) k k, .int .u64 1] 63)) (ARefT q (.slice (some ⟨g, 0, none⟩) k k) (fresh k) :: Ps)) := by
    refine ref_close ?_
    have e : RowG (.slice (some ⟨g, 0, none⟩) k k) (fresh k).rows = ARow 44 3 (.slice (some ⟨g, 0, none⟩) k k) k ((List.replicate k zS).flatMap sgC) := by
      show ARow _ 3 _ (List.replicate k zS).length _ = _
      rw [List.length_replicate]
      rfl
    rw [e]
    exact hbx
  clear hst hbx H hm h1 h2
  go_enter Try.func11, Try.ntmps11
  go_wp2
  rw [← hq]
  go_ret2
  exact ⟨q, _, rfl, H9.out⟩

set_option maxHeartbeats 1600000 in
theorem sealR_any (H : Own.St B w0 w (ARefT q v t :: Ps)) (ok : Ok t N) : Calls Try.prog 27 #[ptr q] w fun e w' => e = .returned (errT (sealT t).2) ∧ Own.St B w0 w' (ARefT q v (sealT t).1 :: Ps) := by
  have CC := Lib.hid (currentR_any H ok)
  have h0 := ref_open H
  obtain ⟨ao, cap, rfl⟩ := h0.rowForm 1 rfl
  have H0 := Lib.hid h0
  have c0 := (H0.out.cellV 0 rfl 0 rfl).1
  have hlen := ok.len
  have HH := Lib.hid H
  clear H h0 ok
  cases hc : cur t with
  | none =>
    have e1 : curV t = .tuple #[.int .i64 0, .bool false] := by unfold curV; rw [hc]; rfl
    have e2 : sealT t = (t, 2) := by unfold sealT; rw [hc]
    rw [e1] at CC
    rw [e2]
    clear hc e1 e2
    go_enter Try.func27, Try.ntmps27
    go_wp2_with (fail)
    refine CC.out.mono ?_
    clear CC
    rintro e w' ⟨rfl, rfl⟩
    go_wp2
    go_ret
    exact ⟨rfl, HH.out⟩
  | some i =>
    obtain ⟨hi, hk⟩ := cur_some hc
    have e1 : curV t = .tuple #[.int .i64 (i : Int), .bool true] := by unfold curV; rw [hc]; rfl
    have e2 : sealT t = (⟨t.rows.set i { at_ t.rows i with kind := 2 }, t.next⟩, 0) := by unfold sealT; rw [hc]
    rw [e1] at CC
    rw [e2]
    obtain ⟨g, cc, e, ha⟩ := rowG_at H0.out 1 rfl i hi
    simp only [Value.slice.injEq, true_and] at e
    obtain ⟨rfl, rfl⟩ := e
    obtain ⟨fz, put⟩ := rowG_set H0.out 1 rfl i 0 { at_ t.rows i with kind := 2 } (.int .u8 2) hi (by omega) rfl
    have a0 := ha.c0
    simp only [List.set_cons_zero, List.set_cons_succ, Nat.add_zero] at fz put
    obtain ⟨n, hn⟩ : ∃ n, n = t.rows.length := ⟨_, rfl⟩
    rw [← hn] at c0 hlen hi
    have P9 : Hid (Own.St B w0 (w.setCell ⟨g, i * 3, none⟩ (.int .u8 2)) (ARefT q (.slice (some ⟨g, 0, none⟩) n cap) ⟨t.rows.set i { at_ t.rows i with kind := 2 }, t.next⟩ :: Ps)) := by
      refine ref_close ?_
      rw [hn, show RowG (.slice (some ⟨g, 0, none⟩) t.rows.length cap) (T.rows ⟨t.rows.set i { at_ t.rows i with kind := 2 }, t.next⟩) = RowG (.slice (some ⟨g, 0, none⟩) t.rows.length cap) (t.rows.set i { at_ t.rows i with kind := 2 }) from rfl]
      exact put
    rw [← hn]
    clear hc e1 e2 ha put hk hn HH
    go_enter Try.func27, Try.ntmps27
    go_wp2_with (fail)
    refine CC.out.mono ?_
    clear CC
    rintro e w' ⟨rfl, rfl⟩
    go_wp2
    go_ret
    exact ⟨rfl, P9.out⟩

set_option maxHeartbeats 1600000 in
theorem relR_any (H : Own.St B w0 w (ARefT q v t :: Ps)) (ok : Ok t N) (seg : Int) (hs : -9223372036854775808 ≤ seg ∧ seg ≤ 9223372036854775807) : Calls Try.prog 28 #[ptr q, .int .i64 seg] w fun e w' => e = .returned (errT (relT t seg).2) ∧ Own.St B w0 w' (ARefT q v (relT t seg).1 :: Ps) := by
  have h0 := ref_open H
  obtain ⟨ao, cap, rfl⟩ := h0.rowForm 1 rfl
  have H0 := Lib.hid h0
  have c0 := (H0.out.cellV 0 rfl 0 rfl).1
  have hlen := ok.len
  have HOK := Lib.hid ok
  have HH := Lib.hid H
  obtain ⟨n, hn⟩ : ∃ n, n = t.rows.length := ⟨_, rfl⟩
  rw [← hn] at c0 hlen ⊢
  have HN := Lib.hid hn
  clear H h0 ok
  by_cases h1 : seg < 0
  · have e2 : relT t seg = (t, 1) := by unfold relT; rw [if_pos (.inl h1)]
    rw [e2]
    have d1 : decide (seg < 0) = true := decide_eq_true h1
    clear e2 hn
    go_enter Try.func28, Try.ntmps28
    go_wp2
    go_ret
    exact ⟨rfl, by rw [HN.out]; exact HH.out⟩
  have d1 : decide (seg < 0) = false := decide_eq_false h1
  by_cases h2 : (n : Int) ≤ seg
  · have e2 : relT t seg = (t, 1) := by unfold relT; rw [if_pos (.inr (by rw [← hn]; exact h2))]
    rw [e2]
    have d2 : decide ((n : Int) ≤ seg) = true := decide_eq_true h2
    clear e2 hn
    go_enter Try.func28, Try.ntmps28
    go_wp2
    go_ret
    exact ⟨rfl, by rw [HN.out]; exact HH.out⟩
  have d2 : decide ((n : Int) ≤ seg) = false := decide_eq_false h2
  obtain ⟨i, rfl⟩ := Int.eq_ofNat_of_zero_le (show 0 ≤ seg by omega)
  have hi : i < t.rows.length := by rw [← hn]; omega
  have hin : i < n := by omega
  obtain ⟨g, cc, e, ha⟩ := rowG_at H0.out 1 rfl i hi
  simp only [Value.slice.injEq, true_and] at e
  obtain ⟨rfl, rfl⟩ := e
  obtain ⟨k, hk⟩ : ∃ k, k = (at_ t.rows i).kind := ⟨_, rfl⟩
  obtain ⟨sq, hsq⟩ : ∃ k, k = (at_ t.rows i).seq := ⟨_, rfl⟩
  obtain ⟨we, hwe⟩ : ∃ k, k = (at_ t.rows i).wear := ⟨_, rfl⟩
  have a0 := ha.c0
  have a1 := ha.c1
  rw [← hk] at a0
  rw [← hsq] at a1
  have hk2 : k ≤ 2 := by rw [hk]; exact HOK.out.kind _ (at_mem hi)
  by_cases h3 : k = 2
  · have e2 : relT t (i : Int) = (⟨t.rows.set i ⟨0, 0, we⟩, t.next⟩, 0) := by
      unfold relT
      rw [if_neg (by rw [← hn]; omega), if_neg (by rw [Int.toNat_natCast, ← hk, h3]; simp), Int.toNat_natCast, ← hwe]
    rw [e2]
    obtain ⟨fz, put⟩ := rowG_set H0.out 1 rfl i 0 ⟨0, sq, we⟩ (.int .u8 0) hi (by omega) (by rw [hsq, hwe]; rfl)
    simp only [List.set_cons_zero, List.set_cons_succ, Nat.add_zero] at fz put
    have hi2 : i < (t.rows.set i ⟨0, sq, we⟩).length := by simpa using hi
    have hat : at_ (t.rows.set i ⟨0, sq, we⟩) i = ⟨0, sq, we⟩ := at_eq (by rw [List.getElem?_set_self hi])
    have put1 : Own.St B w0 (w.setCell ⟨g, i * 3, none⟩ (.int .u8 0)) (AVals q 63 (tabC (.slice (some ⟨g, 0, none⟩) t.rows.length cap) t) :: RowG (.slice (some ⟨g, 0, none⟩) (t.rows.set i ⟨0, sq, we⟩).length cap) (t.rows.set i ⟨0, sq, we⟩) :: Ps) := by
      rw [List.length_set]; exact put
    obtain ⟨fz2, put2⟩ := rowG_set put1 1 rfl i 1 ⟨0, 0, we⟩ (.int .u64 0) hi2 (by omega) (by rw [hat]; rfl)
    have b1 : (w.setCell ⟨g, i * 3, none⟩ (.int .u8 0)).cell? ⟨g, i * 3 + 1, none⟩ = some (.int .u64 (sq : Int)) := by
      obtain ⟨g', c', e', ha'⟩ := rowG_at put1 1 rfl i hi2
      simp only [Value.slice.injEq, Option.some.injEq, Addr.mk.injEq, and_true, true_and] at e'
      have hc1 := ha'.c1
      rw [hat, ← e'.1] at hc1
      exact hc1
    have cq : (w.setCell ⟨g, i * 3, none⟩ (.int .u8 0)).cell? ⟨q, 0, none⟩ = some (.slice (some ⟨g, 0, none⟩) n cap) := by rw [hn]; exact (put1.cellV 0 rfl 0 rfl).1
    simp only [List.set_cons_zero, List.set_cons_succ, List.set_set, List.length_set] at put2
    have P9 : Hid (Own.St B w0 ((w.setCell ⟨g, i * 3, none⟩ (.int .u8 0)).setCell ⟨g, i * 3 + 1, none⟩ (.int .u64 0)) (ARefT q (.slice (some ⟨g, 0, none⟩) n cap) ⟨t.rows.set i ⟨0, 0, we⟩, t.next⟩ :: Ps)) := by
      refine ref_close ?_
      rw [hn]
      exact put2
    subst h3
    clear e2 ha put put1 put2 hk hsq hwe hat hi2 hn HN HOK HH hi H0
    go_enter Try.func28, Try.ntmps28
    go_wp2
    go_ret
    exact ⟨rfl, P9.out⟩
  · have e2 : relT t (i : Int) = (t, 2) := by
      unfold relT
      rw [if_neg (by rw [← hn]; omega), if_pos (by rw [Int.toNat_natCast, ← hk]; exact h3)]
    rw [e2]
    have hb : ((k : Int) == 2) = false := by simp; omega
    have hb2 : ((k : Int) != 2) = true := by simp; omega
    clear e2 ha hk hsq hwe HOK hi hn H0
    go_enter Try.func28, Try.ntmps28
    go_wp2
    go_ret
    exact ⟨rfl, by rw [HN.out]; exact HH.out⟩
end
end Tab
end Go.Proofs.Ytlgfddpgmpabcaa

end
section
namespace Go.Own
open Go.RowKit
/-- a struct literal, whatever the guard -/
theorem build_e {P : Program} {o : Oper} {t : TypeId} {parts : Array (Nat × Operand)} (ho : o.op = .build t parts) (cells : Array Value) (ρ : Operand → Value) (w : World) (hf : P.built t (parts.map fun (i, x) => (i, ρ x)).toList = some cells) : (execOp ρ o).run P w = .ok (.value (.agg cells)) w := by
  have := run_build w t (parts.map fun (i, x) => (i, ρ x)) cells hf
  simp [execOp, ho, this, Result.andThen]
end Go.Own

end
section
namespace Go.Proofs.Ytlgfddpgmpabcaa
open Go.RowKit Go.Own
namespace Tab
open Go.TabM
theorem idx_seg {o : Oper} {x y : Tmp} (ho : o.op = .indexAddr 40 (.tmp x) (.tmp y)) {g n c k : Nat} (hk : k < n) (ρ : Operand → Value) (w : World) (h0 : ρ (.tmp x) = .slice (some ⟨g, 0, none⟩) n c) (h1 : ρ (.tmp y) = .int .i64 (k : Int)) : (execOp ρ o).run Try.prog w = .ok (.value (.pointer (some ⟨g, k * 3, none⟩))) w := by
  have hk' : (k : Int) < (n : Int) := by omega
  simp [execOp, ho, h0, h1, go_sem, hk, hk', add_of]
theorem sat_lt {o : Oper} {x : Tmp} (ho : o.op = .binOp .lss 42 (.tmp x) (.const (.int .u32 4294967295)) 42) {k : Nat} (hk : k ≤ 100000) (ρ : Operand → Value) (w : World) (h0 : ρ (.tmp x) = .int .u32 (k : Int)) (h1 : ρ (.const (.int .u32 4294967295)) = .int .u32 4294967295) : (execOp ρ o).run Try.prog w = .ok (.value (.bool true)) w := by
  have hk' : (k : Int) < 4294967295 := by omega
  simp [execOp, ho, h0, h1, go_sem, hk']
theorem built_seg (a b : Nat) : Try.prog.built 44 [(0, .int .u8 1), (1, .int .u64 (a : Int)), (2, .int .u32 (b : Int))] = some #[.int .u8 1, .int .u64 (a : Int), .int .u32 (b : Int)] := by kernel_rfl
/-- the place of the best segment so far, as a number -/
def bI (b : Option (Nat × Nat)) : Int := match b with | none => -1 | some p => (p.1 : Int)
/-- what Open answers -/
def opV (x : Nat × Nat × Nat) : Value := .tuple #[.int .i64 (x.1 : Int), .int .u64 (x.2.1 : Int), errT x.2.2]
theorem best_at (t : T) {i : Nat} {b : Option (Nat × Nat)} (hi : i < t.rows.length) (h : best t = bestF b i (t.rows.drop i)) : best t = bestF (if takes b (at_ t.rows i) then some (i, (at_ t.rows i).wear) else b) (i + 1) (t.rows.drop (i + 1)) := by
  rw [h, List.drop_eq_getElem_cons hi, bestF, at_lt hi]
/-- a whole segment is stored, cell by cell -/
theorem seg_put {B : Nat} {w0 w : World} {Ps : List Asn} {rows : List Sg} {g c : Nat} (H : Own.St B w0 w Ps) (i : Nat) (hi : Ps[i]? = some (RowG (.slice (some ⟨g, 0, none⟩) rows.length c) rows)) (j : Nat) (s : Sg) (hj : j < rows.length) :
    Own.St B w0 (((w.setCell ⟨g, j * 3, none⟩ (.int .u8 (s.kind : Int))).setCell ⟨g, j * 3 + 1, none⟩ (.int .u64 (s.seq : Int))).setCell ⟨g, j * 3 + 2, none⟩ (.int .u32 (s.wear : Int))) (Ps.set i (RowG (.slice (some ⟨g, 0, none⟩) rows.length c) (rows.set j s))) := by
  have hil : i < Ps.length := (List.getElem?_eq_some_iff.1 hi).1
  obtain ⟨_, p1⟩ := rowG_set H i hi j 0 ⟨s.kind, (at_ rows j).seq, (at_ rows j).wear⟩ (.int .u8 (s.kind : Int)) hj (by omega) rfl
  rw [Nat.add_zero] at p1
  obtain ⟨r1, hr1⟩ : ∃ r, r = rows.set j ⟨s.kind, (at_ rows j).seq, (at_ rows j).wear⟩ := ⟨_, rfl⟩
  have hl1 : r1.length = rows.length := by rw [hr1, List.length_set]
  have ha1 : at_ r1 j = ⟨s.kind, (at_ rows j).seq, (at_ rows j).wear⟩ := by rw [hr1]; exact at_eq (by rw [List.getElem?_set_self hj])
  rw [← hr1, ← hl1] at p1
  obtain ⟨_, p2⟩ := rowG_set p1 i (by rw [List.getElem?_set_self hil]) j 1 ⟨s.kind, s.seq, (at_ rows j).wear⟩ (.int .u64 (s.seq : Int)) (by omega) (by omega) (by rw [ha1]; rfl)
  rw [List.set_set] at p2
  obtain ⟨r2, hr2⟩ : ∃ r, r = r1.set j ⟨s.kind, s.seq, (at_ rows j).wear⟩ := ⟨_, rfl⟩
  have hl2 : r2.length = r1.length := by rw [hr2, List.length_set]
  have ha2 : at_ r2 j = ⟨s.kind, s.seq, (at_ rows j).wear⟩ := by rw [hr2]; exact at_eq (by rw [List.getElem?_set_self (by omega)])
  rw [← hr2, ← hl2] at p2
  obtain ⟨_, p3⟩ := rowG_set p2 i (by rw [List.getElem?_set_self hil]) j 2 s (.int .u32 (s.wear : Int)) (by omega) (by omega) (by rw [ha2]; rfl)
  rw [List.set_set, hl2, hl1, hr2, hr1, List.set_set, List.set_set] at p3
  exact p3
theorem seg_there {B : Nat} {w0 w : World} {Ps : List Asn} {rows : List Sg} {g c : Nat} (H : Own.St B w0 w Ps) (i : Nat) (hi : Ps[i]? = some (RowG (.slice (some ⟨g, 0, none⟩) rows.length c) rows)) (j : Nat) (hj : j < rows.length) : w.there g (j * 3) 3 := by
  intro k hk
  obtain ⟨g1, e1, ⟨u, _, hc⟩, fz, _⟩ := H.rowAt i hi (j * 3 + k) (by omega)
  cases e1
  exact ⟨by rw [hc]; rfl, fz⟩
section
variable {B : Nat} {w0 w : World} {Ps : List Asn} {q : Nat} {v : Value} {t : T} {N : Nat}
set_option maxRecDepth 6000 in
set_option maxHeartbeats 8000000 in
theorem openR_any (H : Own.St B w0 w (ARefT q v t :: Ps)) (ok : Ok t N) (hN : N ≤ 100000) : Calls Try.prog 26 #[ptr q] w fun e w' => e = .returned (opV (openT t).2) ∧ Own.St B w0 w' (ARefT q v (openT t).1 :: Ps) := by
  have CC := Lib.hid (currentR_any H ok)
  have h0 := ref_open H
  obtain ⟨ao, cap, rfl⟩ := h0.rowForm 1 rfl
  have H0 := Lib.hid h0
  have c0 := (H0.out.cellV 0 rfl 0 rfl).1
  have hlen := ok.len
  have HOK := Lib.hid ok
  have HH := Lib.hid H
  obtain ⟨X, hX⟩ : ∃ X, X = openT t := ⟨_, rfl⟩
  rw [← hX]
  have HX := Lib.hid hX
  clear hX
  obtain ⟨n, hn⟩ : ∃ n, n = t.rows.length := ⟨_, rfl⟩
  have HN := Lib.hid hn
  rw [← hn] at c0 hlen ⊢
  clear H h0 ok
  cases hc : cur t with
  | some i =>
    have e1 : curV t = .tuple #[.int .i64 (i : Int), .bool true] := by unfold curV; rw [hc]; rfl
    have e2 : Hid (X = (t, (0, 0, 3))) := by show _ = _; rw [HX.out]; unfold openT; rw [hc]
    rw [e1] at CC
    clear hc e1 hn
    go_enter Try.func26, Try.ntmps26
    go_wp2_with (fail)
    refine CC.out.mono ?_
    clear CC
    rintro e w' ⟨rfl, rfl⟩
    go_wp2
    go_ret3
    rw [e2.out]
    exact ⟨rfl, by rw [HN.out]; exact HH.out⟩
  | none =>
    have e1 : curV t = .tuple #[.int .i64 0, .bool false] := by unfold curV; rw [hc]; rfl
    rw [e1] at CC
    have HCN := Lib.hid hc
    clear hc e1 hn
    go_enter Try.func26, Try.ntmps26
    go_wp2_with (fail)
    refine CC.out.mono ?_
    clear CC
    rintro e w' ⟨rfl, rfl⟩
    go_wp2
    go_loopw [7, 8] (fun v7 v8 wr => ∃ (i : Nat) (b : Option (Nat × Nat)) (z : Int), i ≤ n ∧ v7 = .int .i64 z ∧ v8 = .int .i64 (i : Int) ∧ z = bI b ∧ Own.St B w0 wr (ARefT q (.slice ao n cap) t :: Ps) ∧ best t = bestF b i (t.rows.drop i) ∧ (∀ p, b = some p → p.1 < n ∧ (at_ t.rows p.1).wear = p.2)) (fun _ v8 _ => n - (intOf v8).toNat)
    case atStart => exact ⟨0, none, -1, Nat.zero_le _, rfl, rfl, rfl, by rw [HN.out]; exact HH.out, rfl, fun p h => by cases h⟩
    case round =>
      obtain ⟨i, b, z, hin, rfl, rfl, hz, hm, hbe, hbb⟩ := hrel
      have HBE := Lib.hid hbe
      have HBB := Lib.hid hbb
      have HWM := Lib.hid hm
      have HR := Lib.hid (ref_open hm)
      have c0 := (HR.out.cellV 0 rfl 0 rfl).1
      clear hbe hbb hm HH
      by_cases hi : (i : Int) < (n : Int)
      · have hil : i < t.rows.length := by rw [← HN.out]; omega
        have hin2 : i < n := by omega
        obtain ⟨g, cc, e, ha⟩ := rowG_at HR.out 1 rfl i hil
        simp only [Value.slice.injEq] at e
        obtain ⟨rfl, hnn, rfl⟩ := e
        clear hnn
        have HCA := Lib.hid (best_at t hil HBE.out)
        obtain ⟨k, hk⟩ : ∃ k, k = (at_ t.rows i).kind := ⟨_, rfl⟩
        obtain ⟨we, hwe⟩ : ∃ k, k = (at_ t.rows i).wear := ⟨_, rfl⟩
        have a0 := ha.c0
        have a2 := ha.c2
        rw [← hk] at a0
        rw [← hwe] at a2 HCA
        have hk2 : k ≤ 2 := by rw [hk]; exact HOK.out.kind _ (at_mem hil)
        have hwb : we ≤ 100000 := by rw [hwe]; exact Nat.le_trans (HOK.out.wear _ (at_mem hil)) hN
        have HK := Lib.hid hk
        have HWE := Lib.hid hwe
        clear ha hk hwe
        by_cases h1 : k = 0
        · subst h1
          cases b with
          | none =>
            have hz' : z = -1 := hz
            subst hz'
            clear hz
            have HB2 : Hid (best t = bestF (some (i, we)) (i + 1) (t.rows.drop (i + 1))) := by show _ = _; rw [HCA.out]; unfold takes; rw [← HK.out]; rfl
            clear HCA HBE
            go_wp2
            go_quiet (fail)
            go_wp2
            go_roundw
            case rel => exact ⟨i + 1, some (i, we), (i : Int), by omega, rfl, by go_num, rfl, HWM.out.drewN nq, HB2.out, fun p h => by cases h; exact ⟨hin2, HWE.out.symm⟩⟩
            case measure => simp [intOf]; omega
          | some p =>
            obtain ⟨bi, bw⟩ := p
            have hz' : z = (bi : Int) := hz
            subst hz'
            clear hz
            obtain ⟨hb1, hb2⟩ := HBB.out _ rfl
            simp only at hb1 hb2
            have hbl : bi < t.rows.length := by rw [← HN.out]; exact hb1
            obtain ⟨g2, cc2, e2, ha2⟩ := rowG_at HR.out 1 rfl bi hbl
            simp only [Value.slice.injEq, Option.some.injEq, Addr.mk.injEq, and_true] at e2
            obtain ⟨rfl, hnn, hcc⟩ := e2
            clear hnn hcc
            have d2 := ha2.c2
            rw [hb2] at d2
            have hbwb : bw ≤ 100000 := by rw [← hb2]; exact Nat.le_trans (HOK.out.wear _ (at_mem hbl)) hN
            have HB2 := Lib.hid hb2
            clear ha2 hb2 hbl
            have hneg : decide ((bi : Int) < 0) = false := decide_eq_false (by omega)
            by_cases hlt : we < bw
            · have HBN : Hid (best t = bestF (some (i, we)) (i + 1) (t.rows.drop (i + 1))) := by
                show _ = _
                rw [HCA.out]; unfold takes; rw [← HK.out, ← HWE.out]; simp [hlt]
              have hd : decide ((we : Int) < (bw : Int)) = true := decide_eq_true (by omega)
              have hd2 : decide (we < bw) = true := decide_eq_true hlt
              clear HCA HBE
              go_wp2
              go_quiet (fail)
              go_wp2
              go_roundw
              case rel => exact ⟨i + 1, some (i, we), (i : Int), by omega, rfl, by go_num, rfl, HWM.out.drewN nq, HBN.out, fun p h => by cases h; exact ⟨hin2, HWE.out.symm⟩⟩
              case measure => simp [intOf]; omega
            · have HBN : Hid (best t = bestF (some (bi, bw)) (i + 1) (t.rows.drop (i + 1))) := by
                show _ = _
                rw [HCA.out]; unfold takes; rw [← HK.out, ← HWE.out]; simp [hlt]
              have hd : decide ((we : Int) < (bw : Int)) = false := decide_eq_false (by omega)
              have hd2 : decide (we < bw) = false := decide_eq_false hlt
              clear HCA HBE
              go_wp2
              go_quiet (fail)
              go_wp2
              go_roundw
              case rel => exact ⟨i + 1, some (bi, bw), (bi : Int), by omega, rfl, by go_num, rfl, HWM.out.drewN nq, HBN.out, fun p h => by cases h; exact ⟨hb1, HB2.out⟩⟩
              case measure => simp [intOf]; omega
        · have hb : ((k : Int) == 0) = false := by simp; omega
          have HBN : Hid (best t = bestF b (i + 1) (t.rows.drop (i + 1))) := by
            show _ = _
            rw [HCA.out]; unfold takes; rw [← HK.out]; simp [h1]
          have HZ := Lib.hid hz
          clear HCA HBE h1 hz
          go_wp2
          go_quiet (fail)
          go_wp2
          go_roundw
          case rel => exact ⟨i + 1, b, z, by omega, rfl, by go_num, HZ.out, HWM.out.drewN nq, HBN.out, HBB.out⟩
          case measure => simp [intOf]; omega
      · have HBN : Hid (best t = b) := by
          show _ = _
          rw [HBE.out, List.drop_of_length_le (by rw [← HN.out]; omega)]
          rfl
        cases b with
        | none =>
          have hz' : z = -1 := hz
          subst hz'
          clear hz
          have e2 : Hid (X = (t, (0, 0, 5))) := by show _ = _; rw [HX.out]; unfold openT; rw [HCN.out, HBN.out]
          clear HBE HBB HBN
          go_wp2
          go_ret3
          rw [e2.out]
          exact ⟨rfl, HWM.out⟩
        | some p =>
          obtain ⟨bi, bw⟩ := p
          have hz' : z = (bi : Int) := hz
          subst hz'
          clear hz
          obtain ⟨hbn, hb2⟩ := HBB.out _ rfl
          simp only at hbn hb2
          have e2 : Hid (X = (opened t bi bw, (bi, t.next, 0))) := by show _ = _; rw [HX.out]; unfold openT; rw [HCN.out, HBN.out]
          have hbl : bi < t.rows.length := by rw [← HN.out]; exact hbn
          obtain ⟨g, cc, e, ha⟩ := rowG_at HR.out 1 rfl bi hbl
          simp only [Value.slice.injEq] at e
          obtain ⟨rfl, hnn, rfl⟩ := e
          clear hnn
          have d0 := ha.c0
          have d1 := ha.c1
          have d2 := ha.c2
          rw [hb2] at d2
          have hbwb : bw ≤ 100000 := by rw [← hb2]; exact Nat.le_trans (HOK.out.wear _ (at_mem hbl)) hN
          obtain ⟨nx, hnx⟩ : ∃ x, x = t.next := ⟨_, rfl⟩
          have hnxb : nx ≤ 100001 := by rw [hnx]; have := HOK.out.next; omega
          have hneg : decide ((bi : Int) < 0) = false := decide_eq_false (by omega)
          have C0 : Hid (∀ wx, Below wr.heap.size wr wx → wx.cell? ⟨q, 0, none⟩ = some (.slice (some ⟨g, 0, none⟩) n cap)) := fun wx h => Byt.cellLater c0 h
          have C1 : Hid (∀ wx, Below wr.heap.size wr wx → wx.cell? ⟨q, 1, none⟩ = some (.int .u64 (nx : Int))) := fun wx h => Byt.cellLater (by rw [hnx]; exact (HR.out.cellV 0 rfl 1 rfl).1) h
          have HNX := Lib.hid hnx
          clear HBE HBB HBN ha hb2 hnx
          go_wp2_with (refine Byt.wpList_val rfl (sat_lt (x := 68) rfl hbwb _ _ rfl rfl) ?_)
          refine wp_laxW_list 12 (by kernel_rfl) (by kernel_rfl) (by kernel_rfl) (by kernel_rfl) (by kernel_rfl) ?_
          simp only [List.take_succ_cons, List.take_zero, List.drop_succ_cons, List.drop_zero]
          refine wpL_move (.pointer (some ⟨q, 0, none⟩)) rfl (by kernel_rfl) (by kernel_rfl) (by kernel_rfl) (by kernel_rfl) ?_
          refine wpL_run1 (x := .tmp 72) (.pointer (some ⟨q, 0, none⟩)) (.pointer (some ⟨q, 0, none⟩)) (by kernel_rfl) (by kernel_rfl) (by kernel_rfl) (by kernel_rfl) (by kernel_rfl) (fun wx ρ hwx h0 hc => by simp [go_sem, h0, hc]) ?_
          refine wpL_run1 (x := .tmp 73) (.pointer (some ⟨q, 0, none⟩)) (.pointer (some ⟨q, 0, none⟩)) (by kernel_rfl) (by kernel_rfl) (by kernel_rfl) (by kernel_rfl) (by kernel_rfl) (fun wx ρ hwx h0 hc => by simp [go_sem, h0, hc]) ?_
          refine wpL_run1 (x := .tmp 74) (.pointer (some ⟨q, 0, none⟩)) (.slice (some ⟨g, 0, none⟩) n cap) (by kernel_rfl) (by kernel_rfl) (by kernel_rfl) (by kernel_rfl) (by kernel_rfl) (fun wx ρ hwx h0 hc => by simp [go_sem, h0, hc, C0.out wx hwx]) ?_
          refine wpL_move (.int .i64 (bi : Int)) rfl (by kernel_rfl) (by kernel_rfl) (by kernel_rfl) (by kernel_rfl) ?_
          refine wpL_move (.pointer (some ⟨q, 0, none⟩)) rfl (by kernel_rfl) (by kernel_rfl) (by kernel_rfl) (by kernel_rfl) ?_
          refine wpL_run1 (x := .tmp 77) (.pointer (some ⟨q, 0, none⟩)) (.pointer (some ⟨q, 0, none⟩)) (by kernel_rfl) (by kernel_rfl) (by kernel_rfl) (by kernel_rfl) (by kernel_rfl) (fun wx ρ hwx h0 hc => by simp [go_sem, h0, hc]) ?_
          refine wpL_run1 (x := .tmp 78) (.pointer (some ⟨q, 0, none⟩)) (.pointer (some ⟨q, 1, none⟩)) (by kernel_rfl) (by kernel_rfl) (by kernel_rfl) (by kernel_rfl) (by kernel_rfl) (fun wx ρ hwx h0 hc => by simp [go_sem, h0, hc]) ?_
          refine wpL_run1 (x := .tmp 79) (.pointer (some ⟨q, 1, none⟩)) (.int .u64 (nx : Int)) (by kernel_rfl) (by kernel_rfl) (by kernel_rfl) (by kernel_rfl) (by kernel_rfl) (fun wx ρ hwx h0 hc => by simp [go_sem, h0, hc, C1.out wx hwx]) ?_
          refine wpL_move (.int .u32 ((bw + 1 : Nat) : Int)) rfl (by kernel_rfl) (by kernel_rfl) (by kernel_rfl) (by kernel_rfl) ?_
          refine wpL_run2 (x := .tmp 80) (y := .tmp 81) (.int .u64 (nx : Int)) (.int .u32 ((bw + 1 : Nat) : Int)) (.agg #[.int .u8 1, .int .u64 (nx : Int), .int .u32 ((bw + 1 : Nat) : Int)]) (by kernel_rfl) (by kernel_rfl) (by kernel_rfl) (by kernel_rfl) (by kernel_rfl) (by kernel_rfl) (fun wx ρ hwx h0 h1 hc => build_e (parts := #[(0, .const (.int .u8 1)), (1, .tmp 80), (2, .tmp 81)]) rfl _ ρ wx (by simp only [List.map_toArray, List.map_cons, List.map_nil, List.toList_toArray, h0, h1, hc]; exact built_seg nx (bw + 1))) ?_
          refine wpL_run2 (x := .tmp 75) (y := .tmp 76) (.slice (some ⟨g, 0, none⟩) n cap) (.int .i64 (bi : Int)) (.pointer (some ⟨g, bi * 3, none⟩)) (by kernel_rfl) (by kernel_rfl) (by kernel_rfl) (by kernel_rfl) (by kernel_rfl) (by kernel_rfl) (fun wx ρ hwx h0 h1 hc => idx_seg rfl hbn ρ wx h0 h1) ?_
          refine wpL_end (by kernel_rfl) (fun wd hwd => ?_)
          simp only [FinL, setL, List.set_cons_zero, List.set_cons_succ]
          intro _
          have HD := HR.out.later hwd
          rw [HN.out] at HD
          have TH : Hid (wd.there g (bi * 3) 3) := seg_there HD 1 rfl bi hbl
          have hput := seg_put HD 1 rfl bi ⟨1, nx, bw + 1⟩ hbl
          obtain ⟨W3, hW3⟩ : ∃ W, W = wd.setCells g (bi * 3) (#[.int .u8 1, .int .u64 (nx : Int), .int .u32 ((bw + 1 : Nat) : Int)] : Array Value).toList := ⟨_, rfl⟩
          have h3 : Own.St B w0 W3 (AVals q 63 (tabC (.slice (some ⟨g, 0, none⟩) t.rows.length cap) t) :: RowG (.slice (some ⟨g, 0, none⟩) t.rows.length cap) (t.rows.set bi ⟨1, nx, bw + 1⟩) :: Ps) := by rw [hW3]; exact hput
          have h4 := h3.storeV 0 rfl 1 (.int .u64 ((nx + 1 : Nat) : Int))
          obtain ⟨W4, hW4⟩ : ∃ W, W = W3.setCell ⟨q, 1, none⟩ (.int .u64 ((nx + 1 : Nat) : Int)) := ⟨_, rfl⟩
          rw [← hW4] at h4
          have h4b : Own.St B w0 W4 (AVals q 63 (tabC (.slice (some ⟨g, 0, none⟩) t.rows.length cap) (opened t bi bw)) :: RowG (.slice (some ⟨g, 0, none⟩) (t.rows.set bi ⟨1, nx, bw + 1⟩).length cap) (t.rows.set bi ⟨1, nx, bw + 1⟩) :: Ps) := by
            rw [List.length_set]
            have e : tabC (.slice (some ⟨g, 0, none⟩) t.rows.length cap) (opened t bi bw) = [.slice (some ⟨g, 0, none⟩) t.rows.length cap, .int .u64 ((nx + 1 : Nat) : Int)] := by rw [HNX.out]; rfl
            rw [e]
            exact h4
          have hbl2 : bi < (t.rows.set bi ⟨1, nx, bw + 1⟩).length := by simpa using hbl
          obtain ⟨g', c', e', ha'⟩ := rowG_at h4b 1 rfl bi hbl2
          simp only [Value.slice.injEq, Option.some.injEq, Addr.mk.injEq, and_true] at e'
          obtain ⟨rfl, hnn, hcc⟩ := e'
          clear hnn hcc
          have k1 := ha'.c1
          rw [at_eq (by rw [List.getElem?_set_self hbl])] at k1
          simp only at k1
          have c3 : W3.cell? ⟨q, 1, none⟩ = some (.int .u64 (nx : Int)) := by rw [HNX.out]; exact (h3.cellV 0 rfl 1 rfl).1
          have f3 := (h3.cellV 0 rfl 1 rfl).2
          have c4 : W4.cell? ⟨q, 0, none⟩ = some (.slice (some ⟨g, 0, none⟩) n cap) := by rw [HN.out]; exact (h4b.cellV 0 rfl 0 rfl).1
          have HW3 := Lib.hid hW3
          have HW4 : Hid (W3.setCell ⟨q, 1, none⟩ (.int .u64 ((nx : Int) + 1)) = W4) := hW4.symm
          have H9 : Hid (Own.St B w0 W4 (ARefT q (.slice (some ⟨g, 0, none⟩) n cap) (opened t bi bw) :: Ps)) := by
            rw [HN.out]
            refine ref_close ?_
            have e : RowG (.slice (some ⟨g, 0, none⟩) t.rows.length cap) (opened t bi bw).rows = RowG (.slice (some ⟨g, 0, none⟩) t.rows.length cap) (t.rows.set bi ⟨1, nx, bw + 1⟩) := by rw [HNX.out]; rfl
            rw [e]
            rw [List.length_set] at h4b
            exact h4b
          have IO : Hid ((Try.prog.info? 44).map (·.size) = some 3) := by show _ = _; kernel_rfl
          clear hwd HD hput hW3 h3 h4 hW4 h4b ha' hbl2 hbl C0 C1 d0 d1 d2 c0 HR HWM
          refine wpList_store_mid rfl 44 (.tmp 83) (.tmp 82) rfl g (bi * 3) #[.int .u8 1, .int .u64 (nx : Int), .int .u32 ((bw + 1 : Nat) : Int)] rfl rfl TH.out IO.out (all_oneCell_toArray (cs := [_, _, _]) (by intro v hv; simp at hv; rcases hv with rfl | rfl | rfl <;> rfl)) ?_
          rw [← HW3.out]
          go_wp2_with (fail)
          rw [HW4.out]
          go_quiet (fail)
          go_wp2
          go_ret3
          rw [e2.out]
          exact ⟨by rw [HNX.out]; rfl, H9.out.drewN _⟩
end
end Tab
end Go.Proofs.Ytlgfddpgmpabcaa

end
section
namespace Go.Proofs.Ytlgfddpgmpabcaa
open Go.RowKit Go.Own

namespace Cod

/-- the many lowest bytes of n, the least significant one first -/
def le (n : Nat) : Nat → List UInt8
  | 0 => []
  | k + 1 => le n k ++ [UInt8.ofNat (n / 2 ^ (8 * k))]
/-- a writer as plain data: its room, what was written, its first error -/
structure WS where
  room : Int
  xs : List UInt8
  err : Int

def WS.lay (s : WS) (bs : List UInt8) : WS := if s.err ≠ 0 then s else if s.room - s.xs.length < bs.length then { s with err := 4 } else { s with xs := s.xs ++ bs }
def WS.num (s : WS) (n : Nat) (many : Int) : WS := if s.err ≠ 0 then s else if many < 0 ∨ 8 < many then { s with err := 1 } else s.lay (le n many.toNat)
end Cod
end Go.Proofs.Ytlgfddpgmpabcaa

end
section
namespace Go.Proofs.Ytlgfddpgmpabcaa
open Go.RowKit Go.Own
namespace Cod

/-- a reader as plain data: the bytes that are left, its first error -/
structure RS where
  l : List UInt8
  err : Int

theorem View.take {w : World} {D : Nat → Prop} {ao : Option Addr} {l : List UInt8} (h : View w D ao l) (n : Nat) : View w D ao (l.take n) := by
  rcases h with rfl | ⟨b, o, e, hS, hb, hc⟩
  · exact .inl (by simp)
  · refine .inr ⟨b, o, e, hS, hb, fun j hj => ?_⟩
    rw [List.length_take] at hj
    rw [hc j (by omega)]
    simp [List.getD, show j < n by omega]

theorem View.drop {w : World} {D : Nat → Prop} {b o : Nat} {l : List UInt8} (h : View w D (some ⟨b, o, none⟩) l) (n : Nat) : View w D (some ⟨b, o + n, none⟩) (l.drop n) := by
  rcases h with rfl | ⟨b', o', e, hS, hb, hc⟩
  · exact .inl (by simp)
  · cases e
    refine .inr ⟨b, o + n, rfl, hS, hb, fun j hj => ?_⟩
    rw [List.length_drop] at hj
    have := hc (n + j) (by omega)
    rw [Nat.add_assoc, this]
    simp [List.getD]

/-- bytes as a number, the least significant one first -/
def num : List UInt8 → Nat
  | [] => 0
  | c :: r => c.toNat + 256 * num r

end Cod
end Go.Proofs.Ytlgfddpgmpabcaa

end
section
namespace Go.Proofs.Ytlgfddpgmpabcaa
open Go.RowKit Go.Own
namespace Cod

def RS.num (r : RS) (many : Int) : Nat × RS :=
  if r.err ≠ 0 then (0, r) else if many < 0 ∨ 8 < many then (0, ⟨r.l, 1⟩) else if (r.l.length : Int) < many then (0, ⟨r.l, 10⟩) else (Cod.num (r.l.take many.toNat), ⟨r.l.drop many.toNat, 0⟩)
end Cod
end Go.Proofs.Ytlgfddpgmpabcaa

end
section
namespace Go.Proofs.Ytlgfddpgmpabcaa
open Go.RowKit Go.Own
namespace Cod

/-- a slice of bytes of one's own -/
def AB (ao : Option Addr) (n cap : Nat) (l : List UInt8) : Asn := ARow 5 1 (.slice ao n cap) n (l.map byteV)

theorem AB.view {w : World} {S : Nat → Prop} {ao : Option Addr} {n cap : Nat} {l : List UInt8} (h : (AB ao n cap l).holds S w) : View w S ao l := Row.view h
theorem AB.len {w : World} {S : Nat → Prop} {ao : Option Addr} {n cap : Nat} {l : List UInt8} (h : (AB ao n cap l).holds S w) : l.length = n ∧ n ≤ cap ∧ cap ≤ maxLen := by
  obtain ⟨ao', cap', hv, h1, h2, _⟩ := Row.form h
  simp only [Value.slice.injEq, true_and] at hv
  obtain ⟨rfl, rfl⟩ := hv
  exact ⟨by have := h.own.1; simpa using this, h1, h2⟩

section
variable {B : Nat} {w0 w : World} {Ps : List Asn} {p : Nat} {s : WS} {r : RS}

end

end Cod
end Go.Proofs.Ytlgfddpgmpabcaa

end
section
namespace Go.Own
open Go.RowKit
/-- a slice that reads as these cells -/
def RdRow (w : World) (v : Value) (n : Nat) (xs : List Value) : Prop := ∃ ao cap, v = .slice ao n cap ∧ (n = 0 ∨ ∃ g, ao = some ⟨g, 0, none⟩ ∧ ∀ j u, xs[j]? = some u → w.cell? ⟨g, j, none⟩ = some u)
theorem cellLater' {W w : World} {a : Addr} {v : Value} (h : W.cell? a = some v) (hb : Below W.heap.size W w) : w.cell? a = some v := by
  have hlt : a.block < W.heap.size := by
    unfold World.cell? at h
    rcases Nat.lt_or_ge a.block W.heap.size with h1 | h1
    · exact h1
    · rw [Array.getElem?_eq_none h1] at h; simp at h
  unfold World.cell? at h ⊢
  rw [hb.block a.block hlt]
  exact h
theorem RdRow.later {W w : World} {v : Value} {n : Nat} {xs : List Value} (h : RdRow W v n xs) (hb : Below W.heap.size W w) : RdRow w v n xs := by
  obtain ⟨ao, cap, rfl, h⟩ := h
  refine ⟨ao, cap, rfl, ?_⟩
  rcases h with h | ⟨g, e, h⟩
  · exact .inl h
  · exact .inr ⟨g, e, fun j u hu => cellLater' (h j u hu) hb⟩
/-- .. in a slot -/
def tyRow (n : Nat) (xs : List Value) : Ty where
  holds v w := RdRow w v n xs
  keep h g := h.later g
theorem rd_own {B : Nat} {w0 w : World} {Ps : List Asn} {e : TypeId} {size n : Nat} {v : Value} {xs : List Value} (H : St B w0 w Ps) (i : Nat) (hi : Ps[i]? = some (ARow e size v n xs)) : RdRow w v n xs := by
  obtain ⟨ao, cap, rfl⟩ := H.rowForm i hi
  refine ⟨ao, cap, rfl, ?_⟩
  cases ao with
  | none => exact .inl ((H.rowLen i hi).2.2.2 rfl).1
  | some a =>
    rcases Nat.eq_zero_or_pos n with h0 | hp
    · exact .inl h0
    · have hl := (H.rowLen i hi).1
      by_cases hs : size = 0
      · obtain ⟨S, hS, _⟩ := H.at i hi
        obtain ⟨ao', cap', hv, _, _, _, hg⟩ := Row.form hS
        simp only [Value.slice.injEq, true_and] at hv
        obtain ⟨rfl, rfl⟩ := hv
        obtain ⟨g, rfl, _⟩ := hg a rfl
        exact .inr ⟨g, rfl, fun j u hu => by have := (List.getElem?_eq_some_iff.1 hu).1; rw [hl, hs] at this; omega⟩
      · have hpos : 0 < n * size := Nat.mul_pos hp (Nat.pos_of_ne_zero hs)
        obtain ⟨g, hg, _⟩ := H.rowAt i hi 0 hpos
        cases hg
        refine .inr ⟨g, rfl, fun j u hu => ?_⟩
        have hj : j < n * size := by rw [← hl]; exact (List.getElem?_eq_some_iff.1 hu).1
        obtain ⟨g', hg', ⟨u', hu', hc⟩, _⟩ := H.rowAt i hi j hj
        cases hg'
        rw [hc, ← hu', hu]
end Go.Own
namespace Go.Proofs.Ytlgfddpgmpabcaa
open Go.RowKit Go.Own
namespace Tab
open Go.TabM
abbrev iV (k : Nat) : Value := .int .i64 (k : Int)
set_option maxHeartbeats 1600000 in
theorem sameInts_any (l : List Nat) (n : Nat) (v1 v2 : Value) (w : World) (h1 : RdRow w v1 n (l.map iV)) (h2 : RdRow w v2 n (l.map iV)) (hl : l.length = n) (hb : n ≤ 1000000) :
    Calls Try.prog 31 #[v1, v2] w fun e w' => e = .returned (.bool true) ∧ Below w.heap.size w w' := by
  obtain ⟨a1, c1, rfl, h1⟩ := h1
  obtain ⟨a2, c2, rfl, h2⟩ := h2
  have H1 := Lib.hid h1
  have H2 := Lib.hid h2
  have HL := Lib.hid hl
  clear h1 h2 hl
  go_enter Try.func31, Try.ntmps31
  go_wp2
  go_loopw [5] (fun v5 wr => ∃ i : Nat, i ≤ n ∧ v5 = .int .i64 (i : Int) ∧ Below w.heap.size w wr) (fun v5 _ => n - (intOf v5).toNat)
  case atStart => exact ⟨0, Nat.zero_le _, rfl, Below.refl _ _⟩
  case round =>
    obtain ⟨i, hin, rfl, hbw⟩ := hrel
    have HB := Lib.hid hbw
    clear hbw
    by_cases hi : (i : Int) < (n : Int)
    · have hin2 : i < n := by omega
      rcases H1.out with h | ⟨g, rfl, hc⟩
      · omega
      rcases H2.out with h | ⟨g2, rfl, hc2⟩
      · omega
      obtain ⟨k, hk⟩ : ∃ k, k = l[i]'(by rw [HL.out]; exact hin2) := ⟨_, rfl⟩
      have hx : (l.map iV)[i]? = some (iV k) := by rw [List.getElem?_map, List.getElem?_eq_getElem (by rw [HL.out]; exact hin2), hk]; rfl
      have q1 := cellLater' (hc i _ hx) HB.out
      have q2 := cellLater' (hc2 i _ hx) HB.out
      clear hc hc2 hx hk H1 H2
      go_wp2
      go_quiet (fail)
      go_wp2
      go_roundw
      case rel => exact ⟨i + 1, by omega, by go_num, (Own.St.start w).later HB.out |>.drewN nq |>.below⟩
      case measure => simp [intOf]; omega
    · go_wp2
      go_ret
      exact ⟨rfl, HB.out⟩
theorem info_seg (cs : List Value) (h : cs.length = 3) : (Try.prog.info? 44).map (·.size) = some cs.length := by
  have h0 : (Try.prog.info? 44).map (fun i => i.size) = some 3 := by kernel_rfl
  rw [h]; exact h0
theorem load_seg {s : Sg} {o : Oper} {x : Tmp} (ho : o.op = .load 44 (.tmp x)) {b k : Nat} (ρ : Operand → Value) {w : World} (hr : w.rangeAt b k (sgC s)) (h0 : ρ (.tmp x) = .pointer (some ⟨b, k, none⟩)) : (execOp ρ o).run Try.prog w = .ok (.value (.agg (sgC s).toArray)) w := by
  have := run_loadAt_mid (P := Try.prog) w b k 44 (sgC s) _ hr Try.underlying44 rfl (info_seg _ rfl)
  unfold execOp
  simp only [ho, h0, Sem.run_bind, this, Result.andThen_ok, Sem.run_pure]
theorem seg_fields : (Try.prog.fieldsOf 44).toList.map (fun f => (f.name, f.type, f.offset)) = [("Kind", 5, 0), ("Seq", 34, 1), ("Wear", 42, 2)] := by kernel_rfl
theorem part_int {t : TypeId} {k : IntKind} (ht : ∀ w, (isAgg t).run Try.prog w = .ok false w) (cs : Array Value) (i : Nat) (x : Int) (h : cs[i]? = some (.int k x)) (w : World) : (part t cs i).run Try.prog w = .ok (.int k x) w := by
  unfold part
  simp only [Sem.run_bind, ht, Result.andThen_ok, Bool.false_eq_true, if_false, h, Sem.run_pure]
theorem run_eq_seg (s : Sg) (w : World) : (Op.equalIn 10000 44 (.agg (sgC s).toArray) (.agg (sgC s).toArray)).run Try.prog w = .ok true w := by
  have ht : Try.prog.underlying 44 = some (.struct (Try.prog.fieldsOf 44)) := by kernel_rfl
  have hp : Try.prog.stoodInHeld 44 = false := by kernel_rfl
  have h := run_equalIn_struct (P := Try.prog) w 9999 44 (sgC s).toArray (sgC s).toArray ht hp
  rw [h]
  have hf := seg_fields
  match hl : (Try.prog.fieldsOf 44).toList with
  | [] => rw [hl] at hf; simp at hf
  | [_] => rw [hl] at hf; simp at hf
  | [_, _] => rw [hl] at hf; simp at hf
  | _ :: _ :: _ :: _ :: _ => rw [hl] at hf; simp at hf
  | [f0, f1, f2] =>
    rw [hl] at hf
    simp only [List.map_cons, List.map_nil, List.cons.injEq, Prod.mk.injEq, and_true] at hf
    obtain ⟨⟨n0, t0, o0⟩, ⟨n1, t1, o1⟩, n2, t2, o2⟩ := hf
    have g0 : ∀ w, (isAgg 5).run Try.prog w = .ok false w := fun w => by kernel_rfl
    have g1 : ∀ w, (isAgg 34).run Try.prog w = .ok false w := fun w => by kernel_rfl
    have g2 : ∀ w, (isAgg 42).run Try.prog w = .ok false w := fun w => by kernel_rfl
    have p0 := part_int g0 (sgC s).toArray 0 (s.kind : Int) rfl
    have p1 := part_int g1 (sgC s).toArray 1 (s.seq : Int) rfl
    have p2 := part_int g2 (sgC s).toArray 2 (s.wear : Int) rfl
    have e0 := run_equalIn_int (P := Try.prog) w 9998 5 .u8 .u8 (s.kind : Int) (s.kind : Int) Try.underlying5
    have e1 := run_equalIn_int (P := Try.prog) w 9998 34 .u64 .u64 (s.seq : Int) (s.seq : Int) Try.underlying34
    have e2 := run_equalIn_int (P := Try.prog) w 9998 42 .u32 .u32 (s.wear : Int) (s.wear : Int) Try.underlying42
    simp [Op.eqFields, n0, t0, o0, n1, t1, o1, n2, t2, o2, p0, p1, p2, e0, e1, e2]
theorem neq_seg {o : Oper} {x y : Tmp} (ho : o.op = .binOp .neq 44 (.tmp x) (.tmp y) 44) (s : Sg) (ρ : Operand → Value) (w : World)
    (h0 : ρ (.tmp x) = .agg (sgC s).toArray) (h1 : ρ (.tmp y) = .agg (sgC s).toArray) : (execOp ρ o).run Try.prog w = .ok (.value (.bool false)) w := by
  have h' := run_eq_seg s w
  have hm : Try.prog.eqGuardType Try.prog.depth 44 = false := by kernel_rfl
  have hg := run_eqGuard_agg (P := Try.prog) w .neq 44 (.tmp x) (.tmp y) (sgC s).toArray (sgC s).toArray hm
  have hb : (binOp .neq 44 (.agg (sgC s).toArray) (.agg (sgC s).toArray)).run Try.prog w = .ok (.bool false) w := by
    have hq : (Op.equal 44 (.agg (sgC s).toArray) (.agg (sgC s).toArray)).run Try.prog w = .ok true w := h'
    simp [binOp, hq]
  unfold execOp
  simp only [ho, h0, h1, Sem.run_bind, hg, Result.andThen_ok, hb, Sem.run_pure]
theorem at_range {w : World} {g j : Nat} {s : Sg} {xs : List Value} (h : ∀ i u, xs[i]? = some u → w.cell? ⟨g, i, none⟩ = some u) (hx : ∀ k, k < 3 → xs[j * 3 + k]? = (sgC s)[k]?) : w.rangeAt g (j * 3) (sgC s) := by
  intro k u hu
  have hk : k < 3 := (List.getElem?_eq_some_iff.1 hu).1
  exact h _ u (by rw [hx k hk, hu])
set_option maxHeartbeats 1600000 in
theorem sameRows_any (l : List Sg) (n : Nat) (v1 v2 : Value) (w : World) (h1 : RdRow w v1 n (l.flatMap sgC)) (h2 : RdRow w v2 n (l.flatMap sgC)) (hl : l.length = n) (hb : n ≤ 1000000) :
    Calls Try.prog 22 #[v1, v2] w fun e w' => e = .returned (.bool true) ∧ Below w.heap.size w w' := by
  obtain ⟨a1, c1, rfl, h1⟩ := h1
  obtain ⟨a2, c2, rfl, h2⟩ := h2
  have H1 := Lib.hid h1
  have H2 := Lib.hid h2
  have HL := Lib.hid hl
  clear h1 h2 hl
  go_enter Try.func22, Try.ntmps22
  go_wp2
  go_loopw [5] (fun v5 wr => ∃ i : Nat, i ≤ n ∧ v5 = .int .i64 (i : Int) ∧ Below w.heap.size w wr) (fun v5 _ => n - (intOf v5).toNat)
  case atStart => exact ⟨0, Nat.zero_le _, rfl, Below.refl _ _⟩
  case round =>
    obtain ⟨i, hin, rfl, hbw⟩ := hrel
    have HB := Lib.hid hbw
    clear hbw
    by_cases hi : (i : Int) < (n : Int)
    · have hin2 : i < n := by omega
      rcases H1.out with h | ⟨g, rfl, hc⟩
      · omega
      rcases H2.out with h | ⟨g2, rfl, hc2⟩
      · omega
      obtain ⟨s, hs⟩ : ∃ s, s = at_ l i := ⟨_, rfl⟩
      have hx : ∀ k, k < 3 → (l.flatMap sgC)[i * 3 + k]? = (sgC s)[k]? := fun k hk => by rw [hs]; exact flat_at sgC 3 l (sgC_len l) i _ (at_get (by rw [HL.out]; exact hin2)) k hk
      have R1 : Hid (∀ wx, Below wr.heap.size wr wx → wx.rangeAt g (i * 3) (sgC s)) := fun wx hwx => at_range (fun j u hu => cellLater' (cellLater' (hc j u hu) HB.out) hwx) hx
      have R2 : Hid (∀ wx, Below wr.heap.size wr wx → wx.rangeAt g2 (i * 3) (sgC s)) := fun wx hwx => at_range (fun j u hu => cellLater' (cellLater' (hc2 j u hu) HB.out) hwx) hx
      clear hc hc2 hx hs H1 H2
      go_wp2_with (fail)
      refine wp_lax_list (by kernel_rfl) (by kernel_rfl) (by kernel_rfl) ?_
      refine wpL_move (.slice (some ⟨g, 0, none⟩) n c1) rfl (by kernel_rfl) (by kernel_rfl) (by kernel_rfl) (by kernel_rfl) ?_
      refine wpL_move (.int .i64 (i : Int)) rfl (by kernel_rfl) (by kernel_rfl) (by kernel_rfl) (by kernel_rfl) ?_
      refine wpL_run2 (x := .tmp 17) (y := .tmp 18) (.slice (some ⟨g, 0, none⟩) n c1) (.int .i64 (i : Int)) (.pointer (some ⟨g, i * 3, none⟩)) (by kernel_rfl) (by kernel_rfl) (by kernel_rfl) (by kernel_rfl) (by kernel_rfl) (by kernel_rfl) (fun wx ρ hwx h0 h1 hc => idx_seg rfl hin2 ρ wx h0 h1) ?_
      refine wpL_run1 (x := .tmp 19) (.pointer (some ⟨g, i * 3, none⟩)) (.agg (sgC s).toArray) (by kernel_rfl) (by kernel_rfl) (by kernel_rfl) (by kernel_rfl) (by kernel_rfl) (fun wx ρ hwx h0 hc => load_seg rfl ρ (R1.out wx hwx) h0) ?_
      refine wpL_move (.slice (some ⟨g2, 0, none⟩) n c2) rfl (by kernel_rfl) (by kernel_rfl) (by kernel_rfl) (by kernel_rfl) ?_
      refine wpL_move (.int .i64 (i : Int)) rfl (by kernel_rfl) (by kernel_rfl) (by kernel_rfl) (by kernel_rfl) ?_
      refine wpL_run2 (x := .tmp 21) (y := .tmp 22) (.slice (some ⟨g2, 0, none⟩) n c2) (.int .i64 (i : Int)) (.pointer (some ⟨g2, i * 3, none⟩)) (by kernel_rfl) (by kernel_rfl) (by kernel_rfl) (by kernel_rfl) (by kernel_rfl) (by kernel_rfl) (fun wx ρ hwx h0 h1 hc => idx_seg rfl hin2 ρ wx h0 h1) ?_
      refine wpL_run1 (x := .tmp 23) (.pointer (some ⟨g2, i * 3, none⟩)) (.agg (sgC s).toArray) (by kernel_rfl) (by kernel_rfl) (by kernel_rfl) (by kernel_rfl) (by kernel_rfl) (fun wx ρ hwx h0 hc => load_seg rfl ρ (R2.out wx hwx) h0) ?_
      refine wpL_run2 (x := .tmp 20) (y := .tmp 24) (.agg (sgC s).toArray) (.agg (sgC s).toArray) (.bool false) (by kernel_rfl) (by kernel_rfl) (by kernel_rfl) (by kernel_rfl) (by kernel_rfl) (by kernel_rfl) (fun wx ρ hwx h0 h1 hc => neq_seg rfl s ρ wx h0 h1) ?_
      refine wpL_end (by kernel_rfl) (fun w5 hw5 => ?_)
      simp only [FinL, setL, List.set_cons_zero, List.set_cons_succ]
      have HB5 := Lib.hid (HB.out.trans (hw5.mono HB.out.size))
      clear hw5 R1 R2
      go_wp2
      go_roundw
      case rel => exact ⟨i + 1, by omega, by go_num, HB5.out⟩
      case measure => simp [intOf]; omega
    · go_wp2
      go_ret
      exact ⟨rfl, HB.out⟩
end Tab
end Go.Proofs.Ytlgfddpgmpabcaa

end
section
namespace Go.Own
open Go.RowKit
/-- a row of one's own, cut: the first k stay -/
theorem St.rowCut {B : Nat} {w0 w : World} {Ps : List Asn} {e : TypeId} {size n cap : Nat} {ao : Option Addr} {xs : List Value} (H : St B w0 w Ps) (i : Nat) (hi : Ps[i]? = some (ARow e size (.slice ao n cap) n xs)) (k : Nat) (hk : k ≤ n) :
    St B w0 w (Ps.set i (ARow e size (.slice ao k cap) k (xs.take (k * size)))) := by
  obtain ⟨S, hS, _, put⟩ := H.at i hi
  obtain ⟨hown, hset⟩ := hS
  refine put S w (ARow e size (.slice ao k cap) k (xs.take (k * size))) ⟨?_, ?_⟩ (Step.refl S w)
  · have hx := hown.1
    have hks : k * size ≤ n * size := Nat.mul_le_mul_right _ hk
    rcases hown.2 with ⟨hv, h0⟩ | ⟨g, cap', cur, hv, h0, hb, hnc, hcm, hcs, htake⟩
    · simp only [Value.slice.injEq] at hv
      obtain ⟨rfl, _, rfl⟩ := hv
      obtain rfl : k = 0 := by omega
      exact ⟨by simp, .inl ⟨rfl, rfl⟩⟩
    · simp only [Value.slice.injEq, true_and] at hv
      obtain ⟨rfl, rfl⟩ := hv
      refine ⟨by rw [List.length_take]; omega, .inr ⟨g, cap, cur, rfl, h0, hb, by omega, hcm, hcs, ?_⟩⟩
      rw [← htake, List.take_take, Nat.min_eq_left hks]
  · intro j
    rw [hset j]
    cases ao <;> simp [Value.ownBlock]
end Go.Own
namespace Go.Proofs.Ytlgfddpgmpabcaa
open Go.RowKit Go.Own
namespace Tab
open Go.TabM
theorem manyInt : Many Try.prog 57 3 1 8 := ⟨Try.underlying57, by kernel_rfl, by decide⟩
abbrev RowI (v : Value) (l : List Nat) (n : Nat) : Asn := ARow 3 1 v n (l.map iV)
theorem cutToI (ao : Option Addr) (m cap k : Nat) (hk : k ≤ m) (hm : m ≤ cap) (hc : cap ≤ maxLen) (hno : ao = none → m = 0 ∧ cap = 0) (o : Oper) (x y : Operand) (ho : o.op = .slice 57 x none (some y) none) (ρ : Operand → Value) (w : World) (h0 : ρ x = .slice ao m cap) (h1 : ρ y = .int .i64 (k : Int)) :
    (execOp ρ o).run Try.prog w = .ok (.value (.slice ao k cap)) w := by
  unfold maxLen at hc
  cases ao with
  | none =>
    obtain ⟨rfl, rfl⟩ := hno rfl
    obtain rfl : k = 0 := by omega
    simp [execOp, ho, h0, h1, go_sem]
  | some a =>
    simp [execOp, ho, h0, h1, go_sem]
    omega
theorem cutFromI (ao : Option Addr) (m cap k : Nat) (hk : k ≤ m) (hm : m ≤ cap) (hc : cap ≤ maxLen) (hno : ao = none → m = 0 ∧ cap = 0) :
    ∃ a' c', (∀ (o : Oper) (x y : Operand), o.op = .slice 57 x (some y) none none → ∀ (ρ : Operand → Value) w, ρ x = .slice ao m cap → ρ y = .int .i64 (k : Int) → (execOp ρ o).run Try.prog w = .ok (.value (.slice a' (m - k) c')) w) ∧
      (a' = none → m - k = 0 ∧ c' = 0) ∧ (∀ (w : World) (xs : List Value), xs.length = m → (∀ g, ao = some ⟨g, 0, none⟩ → ∀ j u, xs[j]? = some u → w.cell? ⟨g, j, none⟩ = some u) → (∀ a, ao = some a → ∃ g, a = ⟨g, 0, none⟩) → ∀ a, a' = some a → ∀ j u, (xs.drop k)[j]? = some u → w.cell? (a.add j) = some u) := by
  have hc0 := hc
  unfold maxLen at hc
  cases ao with
  | none =>
    obtain ⟨rfl, rfl⟩ := hno rfl
    obtain rfl : k = 0 := by omega
    exact ⟨none, 0, fun o x y ho ρ w h0 h1 => by simp [execOp, ho, h0, h1, go_sem], fun _ => ⟨rfl, rfl⟩, fun w xs _ _ _ a h => by cases h⟩
  | some a =>
    by_cases hck : cap = k
    · refine ⟨some a, 0, fun o x y ho ρ w h0 h1 => ?_, (fun h => by cases h), fun w xs hl _ _ a' h j u hu => ?_⟩
      · simp [execOp, ho, h0, h1, go_sem]
        rw [if_pos hk, if_pos hck, hck]; simp
      · rw [List.drop_eq_nil_of_le (by omega)] at hu; simp at hu
    · refine ⟨some (a.add k), cap - k, fun o x y ho ρ w h0 h1 => ?_, (fun h => by cases h), fun w xs hl hcl hg a' h j u hu => ?_⟩
      · simp [execOp, ho, h0, h1, go_sem]
        rw [if_pos hk, if_neg hck]
      · obtain ⟨g, rfl⟩ := hg a rfl
        cases h
        rw [add_of, Nat.zero_add, add_of]
        rw [List.getElem?_drop] at hu
        exact hcl g rfl _ u hu
theorem ahead_at (rows : List Sg) (s k : Nat) (l : List Nat) (hk : k < l.length) : aheadN rows s (l.drop k) = if (at_ rows (l[k])).seq ≤ s then aheadN rows s (l.drop (k + 1)) + 1 else 0 := by
  rw [List.drop_eq_getElem_cons hk, aheadN]
theorem sealed_at (rows : List Sg) {i : Nat} {acc : List Nat} (hi : i < rows.length) : sealedF rows acc i (rows.drop i) = sealedF rows (if (at_ rows i).kind = 2 then ins rows acc i else acc) (i + 1) (rows.drop (i + 1)) := by
  rw [List.drop_eq_getElem_cons hi, sealedF, at_lt hi]
theorem one_cellI (w : World) (i : Nat) : ∀ a, some (⟨w.heap.size, 0, none⟩ : Addr) = some a → ∀ j u, ([iV i] : List Value)[j]? = some u → (w.alloc (.cells #[.int .i64 (i : Int)] 3)).cell? (a.add j) = some u := by
  intro a ha j u hu
  cases ha
  cases j with
  | zero =>
    simp at hu
    subst hu
    rw [add_of]
    exact ((Own.St.start w).boxV 3 [iV i]).cellV 0 rfl 0 rfl |>.1
  | succ j => simp at hu
section
variable {B : Nat} {w0 w : World} {Ps : List Asn} {q : Nat} {v : Value} {t : T} {N : Nat}
set_option maxRecDepth 6000 in
set_option maxHeartbeats 16000000 in
theorem sealedR_any (H : Own.St B w0 w (ARefT q v t :: Ps)) (ok : Ok t N) (hN : N ≤ 100000) : Calls Try.prog 32 #[ptr q] w fun e w' => ∃ ao c, e = .returned (.slice ao (sealedL t).length c) ∧ Own.St w.heap.size w w' [RowI (.slice ao (sealedL t).length c) (sealedL t) (sealedL t).length] := by
  have h0 := ref_open H
  obtain ⟨ao, cap, rfl⟩ := h0.rowForm 1 rfl
  have c0 := (h0.cellV 0 rfl 0 rfl).1
  have hlen := ok.len
  have HOK := Lib.hid ok
  obtain ⟨R, hR⟩ : ∃ R, R = sealedL t := ⟨_, rfl⟩
  rw [← hR]
  have HR0 : Hid (R = sealedF t.rows [] 0 (t.rows.drop 0)) := hR
  obtain ⟨n, hn⟩ : ∃ n, n = t.rows.length := ⟨_, rfl⟩
  have HN := Lib.hid hn
  rw [← hn] at c0 hlen
  have hst : Own.St w.heap.size w w [RowI (.slice none 0 0) [] 0] := (Own.St.start w).rowFresh
  have htb : Own.St B w0 w (AVals q 63 (tabC (.slice ao n cap) t) :: RowG (.slice ao n cap) t.rows :: Ps) := by rw [hn]; exact h0
  have HTB := Lib.hid htb
  have HST := Lib.hid hst
  clear H h0 ok hn hR hst htb
  go_enter Try.func32, Try.ntmps32
  go_wp2
  go_loopw [3, 4] (fun v3 v4 wr => ∃ (i m : Nat) (acc : List Nat) (a : Option Addr) (c : Nat), i ≤ n ∧ v3 = .slice a m c ∧ v4 = .int .i64 (i : Int) ∧ acc.length = m ∧ m ≤ i ∧ (∀ j ∈ acc, j < i) ∧ R = sealedF t.rows acc i (t.rows.drop i) ∧ Own.St w.heap.size w wr [RowI (.slice a m c) acc m]) (fun _ v4 _ => n - (intOf v4).toNat)
  case atStart => exact ⟨0, 0, [], none, 0, Nat.zero_le _, rfl, rfl, rfl, Nat.le_refl _, (fun j h => by cases h), HR0.out, HST.out⟩
  case round =>
    obtain ⟨i, m, acc, a, c, hin, rfl, rfl, hm, hmi, hlt, hr, h⟩ := hrel
    have HM := Lib.hid hm
    have HLT := Lib.hid hlt
    have HRR := Lib.hid hr
    have HH := Lib.hid h
    have HT := Lib.hid (HTB.out.later h.below)
    have c0 := (HT.out.cellV 0 rfl 0 rfl).1
    clear hm hlt hr h HST HR0
    by_cases hi : (i : Int) < (n : Int)
    · have hil : i < t.rows.length := by rw [← HN.out]; omega
      have hin2 : i < n := by omega
      obtain ⟨g, cc, e, ha⟩ := rowG_at HT.out 1 rfl i hil
      simp only [Value.slice.injEq] at e
      obtain ⟨rfl, hnn, rfl⟩ := e
      clear hnn
      have HSA := Lib.hid (HRR.out.trans (sealed_at t.rows (acc := acc) hil))
      obtain ⟨k, hk⟩ : ∃ k, k = (at_ t.rows i).kind := ⟨_, rfl⟩
      obtain ⟨sq, hsq⟩ : ∃ k, k = (at_ t.rows i).seq := ⟨_, rfl⟩
      have a0 := ha.c0
      have a1 := ha.c1
      rw [← hk] at a0 HSA
      rw [← hsq] at a1
      have hk2 : k ≤ 2 := by rw [hk]; exact HOK.out.kind _ (at_mem hil)
      have hsqb : sq ≤ 100000 := by rw [hsq]; exact Nat.le_trans (HOK.out.seq _ (at_mem hil)) hN
      have HSQ := Lib.hid hsq
      clear ha hk hsq HRR
      by_cases h1 : k = 2
      · subst h1
        have HSB : Hid (R = sealedF t.rows (ins t.rows acc i) (i + 1) (t.rows.drop (i + 1))) := by show _ = _; rw [HSA.out, if_pos rfl]
        obtain ⟨hx1, hx2, hx3, hx4⟩ := HH.out.rowLen 0 rfl
        have hc63 : c ≤ 9223372036854775807 := by unfold maxLen at hx3; omega
        have HX3 := Lib.hid hx3
        have HX4 := Lib.hid hx4
        clear HSA hx1 hx3 hx4
        go_wp2
        go_loopw [5] (fun v5 ws => ∃ k : Nat, k ≤ m ∧ v5 = .int .i64 (k : Int) ∧ aheadN t.rows sq acc = k + aheadN t.rows sq (acc.drop k) ∧ Own.St w.heap.size w ws [RowI (.slice a m c) acc m]) (fun v5 _ => m - (intOf v5).toNat)
        case atStart => exact ⟨0, Nat.zero_le _, rfl, by rw [Nat.zero_add]; rfl, HH.out⟩
        case round =>
          obtain ⟨k, hkm, rfl, hah, h2⟩ := hrel
          have HAH := Lib.hid hah
          have H2 := Lib.hid h2
          have HT2 := Lib.hid (HTB.out.later h2.below)
          clear hah h2 HH a1 c0 a0 HT
          have c0 := (HT2.out.cellV 0 rfl 0 rfl).1
          obtain ⟨g', cc', e', ha'⟩ := rowG_at HT2.out 1 rfl i hil
          simp only [Value.slice.injEq, Option.some.injEq, Addr.mk.injEq, and_true] at e'
          obtain ⟨rfl, hnn, hcc⟩ := e'
          clear hnn hcc
          have a1 := ha'.c1
          rw [← HSQ.out] at a1
          clear ha'
          -- what is done when the place is found
          have FIN : Hid (k = aheadN t.rows sq acc → ∀ (w9 : World) (a9 : Option Addr) (n9 c9 : Nat) (xs : List Value), xs = ((acc.map iV).take (k * 1) ++ [iV i]) ++ (acc.map iV).drop k → n9 = m + 1 → ∀ X, Own.St w.heap.size w w9 [X, ARow 3 1 (.slice a9 n9 c9) n9 xs] → Own.St w.heap.size w w9 [RowI (.slice a9 (m + 1) c9) (ins t.rows acc i) (m + 1)]) := by
            intro hk9 w9 a9 n9 c9 xs hxs hn9 X h
            have h' := h.drop 1
            simp only [List.drop_succ_cons, List.drop_zero] at h'
            rw [hn9] at h'
            have e : xs = (ins t.rows acc i).map iV := by
              unfold ins
              rw [← HSQ.out, ← hk9, hxs, Nat.mul_one, List.map_append, List.map_cons, List.map_take, List.map_drop]
              simp
            rw [e] at h'
            exact h'
          have MEM : Hid (∀ j ∈ ins t.rows acc i, j < i + 1) := by
            intro j hj
            rcases ins_mem hj with rfl | hj
            · exact Nat.lt_succ_self _
            · exact Nat.lt_succ_of_lt (HLT.out j hj)
          have LEN : Hid ((ins t.rows acc i).length = m + 1) := by show _ = _; rw [ins_len, HM.out]
          -- the three appends
          obtain ⟨af, cf, hcf, hnof, hclf⟩ := cutFromI a m c k hkm hx2 HX3.out HX4.out
          have HCF := Lib.hid hcf
          have HCT := Lib.hid (fun o x y ho ρ w h0 h1 => cutToI a m c k hkm hx2 HX3.out HX4.out o x y ho ρ w h0 h1)
          have HNF := Lib.hid hnof
          have HCLF : Hid (∀ wx, Own.St w.heap.size w wx [RowI (.slice a m c) acc m] → ∀ w2, Below wx.heap.size wx w2 → ∀ aa, af = some aa → ∀ j u, ((acc.map iV).drop k)[j]? = some u → w2.cell? (aa.add j) = some u) := by
            intro wx hx w2 hw2 aa haa j u hu
            have hxl := (hx.rowLen 0 rfl).1
            refine cellLater' (hclf wx (acc.map iV) (by simpa using hxl) ?_ ?_ aa haa j u hu) hw2
            · intro g0 hg0 j u hu
              have := hx.rowNews 0 rfl ⟨g0, 0, none⟩ hg0 j u hu
              rwa [add_of, Nat.zero_add] at this
            · intro a1 ha1
              obtain ⟨S, hS, _⟩ := hx.at 0 rfl
              obtain ⟨ao', cap', hv, _, _, _, hg⟩ := Row.form hS
              simp only [Value.slice.injEq, true_and] at hv
              obtain ⟨rfl, rfl⟩ := hv
              obtain ⟨g1, rfl, _⟩ := hg a1 ha1
              exact ⟨g1, rfl⟩
          clear hcf hnof hclf
          by_cases hkl : (k : Int) < (m : Int)
          · have hkm2 : k < m := by omega
            have hka : k < acc.length := by rw [HM.out]; exact hkm2
            obtain ⟨j, hj⟩ : ∃ j, j = acc[k] := ⟨_, rfl⟩
            have hja : (acc.map iV)[k]? = some (iV j) := by rw [List.getElem?_map, List.getElem?_eq_getElem hka, hj]; rfl
            have hji : j < i := by rw [hj]; exact HLT.out _ (List.getElem_mem hka)
            have hjn : j < n := by omega
            have hjl : j < t.rows.length := by rw [← HN.out]; exact hjn
            obtain ⟨g2, hg2, ⟨u, hu, d0⟩, _, _⟩ := H2.out.rowAt 0 rfl k (by omega)
            rw [hja] at hu
            cases hu
            subst hg2
            obtain ⟨g3, cc3, e3, ha3⟩ := rowG_at HT2.out 1 rfl j hjl
            simp only [Value.slice.injEq, Option.some.injEq, Addr.mk.injEq, and_true] at e3
            obtain ⟨rfl, hnn, hcc⟩ := e3
            clear hnn hcc
            obtain ⟨sj, hsj⟩ : ∃ k, k = (at_ t.rows j).seq := ⟨_, rfl⟩
            have b1 := ha3.c1
            rw [← hsj] at b1
            have hsjb : sj ≤ 100000 := by rw [hsj]; exact Nat.le_trans (HOK.out.seq _ (at_mem hjl)) hN
            have HAT := Lib.hid (ahead_at t.rows sq k acc hka)
            rw [← hj, ← hsj] at HAT
            clear ha3 hsj hj hja hka hjl
            by_cases hle : sj ≤ sq
            · have HA2 : Hid (aheadN t.rows sq acc = (k + 1) + aheadN t.rows sq (acc.drop (k + 1))) := by show _ = _; rw [HAH.out, HAT.out, if_pos hle]; omega
              have hd : decide ((sj : Int) ≤ (sq : Int)) = true := decide_eq_true (by omega)
              have hd2 : decide (sj ≤ sq) = true := decide_eq_true hle
              have hdk : decide ((k : Int) < (m : Int)) = true := decide_eq_true hkl
              have hdk2 : decide (k < m) = true := decide_eq_true hkm2
              clear HAT FIN MEM LEN HCF HCT HNF HCLF
              go_wp2
              go_quiet (fail)
              go_wp2
              go_roundw
              case rel => exact ⟨k + 1, by omega, by go_num, HA2.out, H2.out.drewN nq⟩
              case measure => simp [intOf]; omega
            · have HA2 : Hid (k = aheadN t.rows sq acc) := by show _ = _; rw [HAH.out, HAT.out, if_neg hle]; omega
              have hd : decide ((sj : Int) ≤ (sq : Int)) = false := decide_eq_false (by omega)
              have hd2 : decide (sj ≤ sq) = false := decide_eq_false hle
              have hdk : decide ((k : Int) < (m : Int)) = true := decide_eq_true hkl
              have hdk2 : decide (k < m) = true := decide_eq_true hkm2
              clear HAT HAH
              go_wp2
              go_quiet (fail)
              have HA := Lib.hid (H2.out.drewN nq)
              have HE := Lib.hid (HA.out.emptyRow 3 1)
              have CELL := Lib.hid (HCLF.out wr H2.out _ (((Own.St.start wr).drewN nq).alloc (.cells #[] 3)).below)
              have hdl : ((acc.map iV).drop k).length = (m - k) * 1 := by rw [List.length_drop, List.length_map, HM.out, Nat.mul_one]
              have HDL := Lib.hid hdl
              have ONEI : Hid (∀ l : List Nat, ∀ u ∈ l.map iV, u.oneCell' = true) := fun l u hu => by obtain ⟨j, _, rfl⟩ := List.mem_map.1 hu; rfl
              have OND : Hid (∀ u ∈ (acc.map iV).drop k, u.oneCell' = true) := fun u hu => ONEI.out acc u (List.mem_of_mem_drop hu)
              clear hdl
              go_wp2_with (first
                | (refine Byt.wpList_val rfl (HCF.out _ (.tmp 54) (.tmp 55) rfl _ _ rfl rfl) ?_)
                | (at_builtin; refine wpList_many_append manyInt rfl (.tmp 53) (.tmp 56) rfl HE.out 0 rfl rfl af (m - k) cf ((acc.map iV).drop k) rfl HNF.out HDL.out CELL.out OND.out (by omega) (by decide) ?_; intro a6 c6 w6 h6; simp only [List.set_cons_zero, Nat.zero_add, List.nil_append] at h6 ⊢; have H6 := Lib.hid h6; have HK := Lib.hid ((H6.out.rowCut 1 rfl k hkm).alloc (.cells #[.int .i64 (i : Int)] 3)); have ONE := Lib.hid (one_cellI w6 i); clear h6)
                | (refine Byt.wpList_val rfl (HCT.out _ (.tmp 58) (.tmp 59) rfl _ _ rfl rfl) ?_)
                | (at_builtin; refine wpList_many_append manyInt rfl (.tmp 60) (.tmp 62) rfl HK.out 1 rfl rfl (some ⟨w6.heap.size, 0, none⟩) 1 1 [iV i] rfl (by intro h; cases h) rfl ONE.out (ONEI.out [i]) (by omega) (by decide) ?_; intro a8 c8 w8 h8; simp only [List.set_cons_zero, List.set_cons_succ] at h8 ⊢; have H8 := Lib.hid h8; have NO6 := Lib.hid (H8.out.rowLen 0 rfl).2.2.2; have NEW := Lib.hid (H8.out.rowNews 0 rfl); clear h8)
                | (at_builtin; refine wpList_many_append manyInt rfl (.tmp 64) (.tmp 65) rfl H8.out 1 rfl rfl a6 (m - k) c6 ((acc.map iV).drop k) rfl NO6.out HDL.out NEW.out OND.out (by omega) (by decide) ?_; intro a9 c9 w9 h9; simp only [List.set_cons_zero, List.set_cons_succ] at h9 ⊢; have H9 := Lib.hid h9; clear h9))
              have hsum : k + 1 + (m - k) = m + 1 := by omega
              go_roundw
              case rel => exact ⟨i + 1, m + 1, ins t.rows acc i, a9, c9, by omega, by rw [hsum], by go_num, LEN.out, by omega, MEM.out, HSB.out, FIN.out HA2.out w9 a9 (k + 1 + (m - k)) c9 _ rfl hsum _ H9.out⟩
              case measure => simp [intOf]; omega
          · have hkm2 : k = m := by omega
            have HA2 : Hid (k = aheadN t.rows sq acc) := by
              show _ = _
              rw [HAH.out, List.drop_of_length_le (by rw [HM.out]; omega)]
              rfl
            have hdk : decide ((k : Int) < (m : Int)) = false := decide_eq_false hkl
            have hdk2 : decide (k < m) = false := decide_eq_false (by omega)
            clear HAH hkm2
            go_wp2
            go_quiet (fail)
            have HA := Lib.hid (H2.out.drewN nq)
            have HE := Lib.hid (HA.out.emptyRow 3 1)
            have CELL := Lib.hid (HCLF.out wr H2.out _ (((Own.St.start wr).drewN nq).alloc (.cells #[] 3)).below)
            have hdl : ((acc.map iV).drop k).length = (m - k) * 1 := by rw [List.length_drop, List.length_map, HM.out, Nat.mul_one]
            have HDL := Lib.hid hdl
            have ONEI : Hid (∀ l : List Nat, ∀ u ∈ l.map iV, u.oneCell' = true) := fun l u hu => by obtain ⟨j, _, rfl⟩ := List.mem_map.1 hu; rfl
            have OND : Hid (∀ u ∈ (acc.map iV).drop k, u.oneCell' = true) := fun u hu => ONEI.out acc u (List.mem_of_mem_drop hu)
            clear hdl
            go_wp2_with (first
              | (refine Byt.wpList_val rfl (HCF.out _ (.tmp 54) (.tmp 55) rfl _ _ rfl rfl) ?_)
              | (at_builtin; refine wpList_many_append manyInt rfl (.tmp 53) (.tmp 56) rfl HE.out 0 rfl rfl af (m - k) cf ((acc.map iV).drop k) rfl HNF.out HDL.out CELL.out OND.out (by omega) (by decide) ?_; intro a6 c6 w6 h6; simp only [List.set_cons_zero, Nat.zero_add, List.nil_append] at h6 ⊢; have H6 := Lib.hid h6; have HK := Lib.hid ((H6.out.rowCut 1 rfl k hkm).alloc (.cells #[.int .i64 (i : Int)] 3)); have ONE := Lib.hid (one_cellI w6 i); clear h6)
              | (refine Byt.wpList_val rfl (HCT.out _ (.tmp 58) (.tmp 59) rfl _ _ rfl rfl) ?_)
              | (at_builtin; refine wpList_many_append manyInt rfl (.tmp 60) (.tmp 62) rfl HK.out 1 rfl rfl (some ⟨w6.heap.size, 0, none⟩) 1 1 [iV i] rfl (by intro h; cases h) rfl ONE.out (ONEI.out [i]) (by omega) (by decide) ?_; intro a8 c8 w8 h8; simp only [List.set_cons_zero, List.set_cons_succ] at h8 ⊢; have H8 := Lib.hid h8; have NO6 := Lib.hid (H8.out.rowLen 0 rfl).2.2.2; have NEW := Lib.hid (H8.out.rowNews 0 rfl); clear h8)
              | (at_builtin; refine wpList_many_append manyInt rfl (.tmp 64) (.tmp 65) rfl H8.out 1 rfl rfl a6 (m - k) c6 ((acc.map iV).drop k) rfl NO6.out HDL.out NEW.out OND.out (by omega) (by decide) ?_; intro a9 c9 w9 h9; simp only [List.set_cons_zero, List.set_cons_succ] at h9 ⊢; have H9 := Lib.hid h9; clear h9))
            have hsum : k + 1 + (m - k) = m + 1 := by omega
            go_roundw
            case rel => exact ⟨i + 1, m + 1, ins t.rows acc i, a9, c9, by omega, by rw [hsum], by go_num, LEN.out, by omega, MEM.out, HSB.out, FIN.out HA2.out w9 a9 (k + 1 + (m - k)) c9 _ rfl hsum _ H9.out⟩
            case measure => simp [intOf]; omega
      · have hb : ((k : Int) != 2) = true := by simp; omega
        have hb2 : ((k : Int) == 2) = false := by simp; omega
        have HSB : Hid (R = sealedF t.rows acc (i + 1) (t.rows.drop (i + 1))) := by show _ = _; rw [HSA.out, if_neg h1]
        clear HSA h1
        go_wp2
        go_roundw
        case rel => exact ⟨i + 1, m, acc, a, c, by omega, rfl, by go_num, HM.out, by omega, fun j hj => Nat.lt_succ_of_lt (HLT.out j hj), HSB.out, HH.out⟩
        case measure => simp [intOf]; omega
    · have HE : Hid (R = acc) := by
        show _ = _
        rw [HRR.out, List.drop_of_length_le (by rw [← HN.out]; omega)]
        rfl
      clear HRR
      go_wp2
      go_ret
      rw [HE.out, HM.out]
      refine ⟨a, c, rfl, ?_⟩
      exact HH.out
end
end Tab
end Go.Proofs.Ytlgfddpgmpabcaa

end
