/- Merged: Cpy Roc LaxF TabR Res Cod CodC CodD CodS TabRd Rdw TabRe GhoR GhoQ HotQ HotN Bx RecM StrS KeyI LawHot LawHotA LawHotB MapV Acts -/
import Derived.Laws.IdiomCopy
import Derived.Laws.StructEq
import Derived.Laws.Cover2
import Derived.Laws.Rows
import Derived.Deep.MidRow
import Derived.BigQuiet
import Derived.BigRegion
import Derived.Deep.QuietTactic
import Derived.Lib.Hide
import Derived.Test.YtameigmoabimiaaRows
import Derived.WalkKit
import Derived.Deep.RegionLaw
import Derived.Deep.DeepMust
import Derived.WalkSpells
import Derived.WalkLawsBesides
import Derived.OwnWalk
import Derived.ArgAppend
import Derived.Great.Walk
import Derived.Lib.SlBytesConst
import Derived.Maps.Own
import Derived.Maps.Views
import Derived.WideKeyArr
import Derived.Carry
import Derived.Test.YtameigmoabimiaaU1
set_option linter.unusedVariables false
section
namespace Go.Own
open Go.RowKit
section
variable {B : Nat} {w0 w w1 w2 : World} {Ps : List Asn}
/-- something that came behind w1 -/
theorem St.adopt (H : St B w0 w1 Ps) (g : Below w1.heap.size w1 w2) {T : Nat → Prop} (Q : Asn) (hQ : Q.holds T w2) (hT : ∀ k, T k → w1.heap.size ≤ k) : St B w0 w2 (Q :: Ps) := by
  obtain ⟨hb, hs, S, ha, hB⟩ := H
  have hst : Step (fun _ => False) (fun _ => False) w1 w2 := ⟨g.os, g.tape, g.output, g.size, fun k hk _ => g.block k hk, fun _ h => h.elim⟩
  refine ⟨hb.trans (g.mono hs), Nat.le_trans hs g.size, fun k => T k ∨ S k, ⟨T, S, hQ, ha.keep hst (fun _ _ h => h), fun k h1 h2 => ?_, fun k => Iff.rfl⟩, fun k hk => hk.elim (fun h => Nat.le_trans hs (hT k h)) (hB k)⟩
  have := hT k h1
  have := ha.lt k h2
  omega
theorem St.swap2 {P Q : Asn} (H : St B w0 w (P :: Q :: Ps)) : St B w0 w (Q :: P :: Ps) := H.perm (List.Perm.swap Q P Ps)
end
end Go.Own
namespace Go.Proofs.Ytameigmoabimiaa
open Go.RowKit Go.Own
namespace Byt

section
variable {B : Nat} {w0 : World}
theorem ab_setCells {g n cap : Nat} (i : Nat) : ∀ (r : List UInt8) (o : Nat) (w : World) (Ps : List Asn) (l : List UInt8), Own.St B w0 w Ps → Ps[i]? = some (AB (some ⟨g, 0, none⟩) n cap l) → o + r.length ≤ n →
    Own.St B w0 (w.setCells g o (r.map byteV)) (Ps.set i (AB (some ⟨g, 0, none⟩) n cap (l.take o ++ r ++ l.drop (o + r.length))))
  | [], o, w, Ps, l, h, hi, hl => by
    have e : l.take o ++ [] ++ l.drop (o + ([] : List UInt8).length) = l := by simp
    rw [e]
    have hs : Ps.set i (AB (some ⟨g, 0, none⟩) n cap l) = Ps := by
      apply List.ext_getElem?
      intro j
      by_cases hj : j = i
      · subst hj
        rw [List.getElem?_set_self (List.getElem?_eq_some_iff.1 hi).1, hi]
      · rw [List.getElem?_set_ne (Ne.symm hj)]
    rw [hs]
    exact h
  | c :: r, o, w, Ps, l, h, hi, hl => by
    have hlen := (ab_len h i hi).1
    have hon : o < n := by simp at hl; omega
    obtain ⟨g', hg', _, _, put⟩ := ab_byte h i hi o hon
    cases hg'
    have hlt : i < Ps.length := (List.getElem?_eq_some_iff.1 hi).1
    have h2 := ab_setCells i r (o + 1) _ _ (l.set o c) (put c) (by rw [List.getElem?_set_self hlt]) (by simp at hl ⊢; omega)
    rw [List.set_set] at h2
    have e : (l.set o c).take (o + 1) ++ r ++ (l.set o c).drop (o + 1 + r.length) = l.take o ++ (c :: r) ++ l.drop (o + (c :: r).length) := by
      have ho : o < l.length := by omega
      have e0 : (l.set o c).take o = l.take o := by
        apply List.ext_getElem?
        intro j
        by_cases hj : j < o
        · rw [List.getElem?_take_of_lt hj, List.getElem?_take_of_lt hj, List.getElem?_set_ne (by omega)]
        · rw [List.getElem?_eq_none (by simp; omega), List.getElem?_eq_none (by simp; omega)]
      have e1 : (l.set o c).drop (o + 1 + r.length) = l.drop (o + (c :: r).length) := by
        apply List.ext_getElem?
        intro j
        rw [List.getElem?_drop, List.getElem?_drop, List.getElem?_set_ne (by omega)]
        congr 1
        simp
        omega
      rw [List.take_succ_eq_append_getElem (by simpa using ho), e0, e1]
      simp
    rw [e] at h2
    exact h2
theorem info8 : (Try.prog.info? 5).map (·.size) = some 1 := by kernel_rfl
/-- copy(x, b): b is not longer than x -/
theorem wpList_ab_copy {ops : Array Oper} {rest : List Oper} {o : Oper} {a : Act} {w : World} {Q : Exit → Act → World → Prop} {Ps : List Asn} (hgd : o.guard = none) (d s : Operand)
    (ho : o.op = .call { callee := .builtin .copy, args := #[d, s], argTypes := #[32, 32] }) (H : Own.St B w0 w Ps) (i : Nat) {g n cap : Nat} {l : List UInt8} (hi : Ps[i]? = some (AB (some ⟨g, 0, none⟩) n cap l)) (hd : a.eval d = .slice (some ⟨g, 0, none⟩) n cap)
    (bo : Option Addr) (m c : Nat) (news : List UInt8) (hx : a.eval s = .slice bo m c) (hl : news.length = m) (hmn : m ≤ n) (hno : bo = none → m = 0)
    (hc : ∀ a, bo = some a → ∀ j u, (news.map byteV)[j]? = some u → w.cell? (a.add j) = some u)
    (h : ∀ w', Own.St B w0 w' (Ps.set i (AB (some ⟨g, 0, none⟩) n cap (news ++ l.drop m))) → wpList Try.prog ops Q rest (a.put o.dst (goInt m)) w') : wpList Try.prog ops Q (o :: rest) a w := by
  refine wpList_plain hgd fun K hK => ?_
  have hset := ab_setCells i news 0 w Ps l H hi (by omega)
  rw [List.take_zero, List.nil_append, Nat.zero_add, hl] at hset
  have hlen := (ab_len H i hi).1
  have hcells : ∀ j, j < (news.map byteV).length → (w.cell? ⟨g, 0 + j, none⟩).isSome = true ∧ w.frozen? ⟨g, 0 + j, none⟩ = false := by
    intro j hj
    rw [List.length_map] at hj
    obtain ⟨g', hg', h1, h2, _⟩ := ab_byte H i hi j (by omega)
    cases hg'
    rw [Nat.zero_add]
    exact ⟨by rw [h1]; rfl, h2⟩
  have hrun : (Builtin.copy_ #[32, 32] o.type #[.slice (some ⟨g, 0, none⟩) n cap, .slice bo m c]).run Try.prog w = .ok (goInt m) (w.setCells g 0 (news.map byteV)) := by
    cases bo with
    | none =>
      have hm := hno rfl
      subst hm
      obtain rfl : news = [] := List.eq_nil_of_length_eq_zero hl
      exact run_copy_none (P := Try.prog) w 32 32 o.type 5 _ none n cap 0 c Try.underlying32 info8 (Nat.min_eq_left (Nat.zero_le _))
    | some ad =>
      have := run_copy_cells (P := Try.prog) w 32 32 o.type 5 g 0 n cap ad m c (news.map byteV) Try.underlying32 info8 (by rw [List.length_map, hl]; exact (Nat.min_eq_left hmn).symm) (hc ad rfl) (fun j hj => (hcells j hj).1) (fun j hj => (hcells j hj).2) (byteV_one _)
      rw [List.length_map, hl] at this
      exact this
  unfold Oper.wp
  simp [execOp, ho, resolve, invoke, builtin, hd, hx, hrun, Result.andThen]
  exact hK _ _ (h _ hset)
end
end Byt
end Go.Proofs.Ytameigmoabimiaa

end
section
namespace Go.Own
open Go.RowKit
section
variable {B : Nat} {w0 : World} {e : TypeId} {size n cap : Nat}
end

theorem flat_at {α : Type} (f : α → List Value) (c : Nat) : ∀ (L : List α), (∀ a ∈ L, (f a).length = c) → ∀ (k : Nat) (a : α), L[k]? = some a → ∀ j, j < c → (L.flatMap f)[k * c + j]? = (f a)[j]?
  | [], _, k, a, h, _, _ => by simp at h
  | x :: L, hl, 0, a, h, j, hj => by
    have h2 : x = a := by simpa using h
    subst h2
    have hx := hl x (List.mem_cons_self ..)
    rw [Nat.zero_mul, Nat.zero_add, List.flatMap_cons, List.getElem?_append_left (by omega)]
  | x :: L, hl, k + 1, a, h, j, hj => by
    have hx := hl x (List.mem_cons_self ..)
    rw [List.flatMap_cons, List.getElem?_append_right (by rw [hx, Nat.add_mul]; omega), hx, show (k + 1) * c + j - c = k * c + j by rw [Nat.add_mul]; omega]
    exact flat_at f c L (fun y hy => hl y (List.mem_cons_of_mem _ hy)) k a (by simpa using h) j hj
/-- what the type of an element is like -/
structure Many (P : Program) (t e : TypeId) (size bytes : Nat) : Prop where
  slice : P.underlying t = some (.slice e)
  info : (P.info? e).map (fun i => (i.zero.map (·.cells.size), i.size, i.bytes)) = some (some size, size, bytes)
  pos : 0 < size
section
variable {P : Program} {B : Nat} {w0 w : World} {Ps : List Asn} {t e : TypeId} {size bytes : Nat}
/-- an empty slice literal -/
theorem St.emptyRow (H : St B w0 w Ps) (e : TypeId) (size : Nat) : St B w0 (w.alloc (.cells #[] e)) (ARow e size (.slice (some ⟨w.heap.size, 0, none⟩) 0 0) 0 [] :: Ps) :=
  H.new (S' := fun k => k = w.heap.size) (ARow e size _ 0 []) (Row.made w (#[] : Array Value) e size 0 (Nat.zero_le _) (by simp)) (((Step.refl (fun _ => False) w).alloc (.cells #[] e)).to (fun k hk => .inr (Nat.le_of_eq hk.symm)))
/-- append of several onto a row of one's own -/
theorem run_many_append (O : Many P t e size bytes) (H : St B w0 w Ps) (i : Nat) {v : Value} {n : Nat} {xs : List Value} (hi : Ps[i]? = some (ARow e size v n xs)) (ty : TypeId)
    (ao : Option Addr) (m c : Nat) (news : List Value) (hno : ao = none → m = 0 ∧ c = 0) (hl : news.length = m * size) (hc : ∀ a, ao = some a → ∀ j u, news[j]? = some u → w.cell? (a.add j) = some u) (h1 : ∀ u ∈ news, u.oneCell' = true) (b1 : n + m ≤ 1000000) (b2 : bytes ≤ 10000) :
    ∃ ao' cap' w', (Builtin.append_ #[t, t] ty #[v, .slice ao m c]).run P w = .ok (.slice ao' (n + m) cap') w' ∧ St B w0 w' (Ps.set i (ARow e size (.slice ao' (n + m) cap') (n + m) (xs ++ news))) := by
  obtain ⟨i0, hi0, hz⟩ := Option.map_eq_some_iff.1 O.info
  simp only [Prod.mk.injEq] at hz
  obtain ⟨hz0, hz1, hz2⟩ := hz
  obtain ⟨z, hz3, hz4⟩ := Option.map_eq_some_iff.1 hz0
  obtain ⟨S, hS, _, put⟩ := H.at i hi
  obtain ⟨v', w', T', hr, hrow, hst⟩ := run_append_row (P := P) w t ty e i0 z size bytes O.slice hi0 hz3 hz1 hz2 hz4 O.pos v n xs hS ao m c news hno hl hc h1 (by unfold maxLen; omega) (Nat.le_trans (Nat.mul_le_mul b1 b2) (by decide))
  obtain ⟨ao', cap', rfl, _⟩ := hrow.form
  exact ⟨ao', cap', w', hr, put T' w' (ARow e size (.slice ao' (n + m) cap') (n + m) (xs ++ news)) hrow hst⟩
theorem wpList_many_append {ops : Array Oper} {rest : List Oper} {o : Oper} {a : Act} {Q : Exit → Act → World → Prop} (O : Many P t e size bytes) (hgd : o.guard = none) (s x : Operand)
    (ho : o.op = .call { callee := .builtin .append, args := #[s, x], argTypes := #[t, t] }) (H : St B w0 w Ps) (i : Nat) {v : Value} {n : Nat} {xs : List Value} (hi : Ps[i]? = some (ARow e size v n xs)) (hs : a.eval s = v)
    (ao : Option Addr) (m c : Nat) (news : List Value) (hx : a.eval x = .slice ao m c) (hno : ao = none → m = 0 ∧ c = 0) (hl : news.length = m * size) (hc : ∀ a, ao = some a → ∀ j u, news[j]? = some u → w.cell? (a.add j) = some u) (h1 : ∀ u ∈ news, u.oneCell' = true) (b1 : n + m ≤ 1000000) (b2 : bytes ≤ 10000)
    (h : ∀ ao' cap' w', St B w0 w' (Ps.set i (ARow e size (.slice ao' (n + m) cap') (n + m) (xs ++ news))) → wpList P ops Q rest (a.put o.dst (.slice ao' (n + m) cap')) w') : wpList P ops Q (o :: rest) a w := by
  refine wpList_plain hgd fun K hK => ?_
  obtain ⟨ao', cap', w', hrun, h1⟩ := run_many_append O H i hi o.type ao m c news hno hl hc h1 b1 b2
  unfold Oper.wp
  simp [execOp, ho, resolve, invoke, builtin, hs, hx, hrun, Result.andThen]
  exact hK _ _ (h ao' cap' w' h1)
/-- the cells of a row that another one stands beside -/
theorem St.rowNews {n cap : Nat} {ao : Option Addr} {xs : List Value} (H : St B w0 w Ps) (i : Nat) (hi : Ps[i]? = some (ARow e size (.slice ao n cap) n xs)) : ∀ a, ao = some a → ∀ j u, xs[j]? = some u → w.cell? (a.add j) = some u := by
  intro a ha j u hu
  subst ha
  have hl := (H.rowLen i hi).1
  have hj := (List.getElem?_eq_some_iff.1 hu).1
  obtain ⟨g, hg, ⟨x, hx, hc⟩, _, _⟩ := H.rowAt i hi j (by omega)
  cases hg
  rw [add_of, Nat.zero_add, hc, ← hx, hu]
end
section
variable {P : Program} {t e : TypeId} {size bytes : Nat} {B : Nat} {w0 w : World} {Ps : List Asn}
end
/-- a new variable of many cells -/
theorem wpList_allocZ {P : Program} {ops : Array Oper} {rest : List Oper} {o : Oper} {a : Act} {w : World} {Q : Exit → Act → World → Prop} (hgd : o.guard = none) (ty : TypeId) (ho : o.op = .alloc ty) (z : Array Value) (hz : (P.info? ty).bind (·.zero) = some (.agg z))
    (h : wpList P ops Q rest (a.put o.dst (.pointer (some ⟨w.heap.size, 0, none⟩))) (w.alloc (.cells z ty))) : wpList P ops Q (o :: rest) a w := by
  refine wpList_plain hgd fun K hK => ?_
  obtain ⟨i, hi, hi2⟩ := Option.bind_eq_some_iff.1 hz
  unfold Oper.wp
  simp [execOp, ho, Instr.alloc, zeroValue, typeInfo, hi, hi2, Result.andThen]
  exact hK _ _ h
/-- a struct literal, its cells known -/
theorem wpList_built {P : Program} {ops : Array Oper} {rest : List Oper} {o : Oper} {a : Go.Act} {w : World} {Q : Exit → Go.Act → World → Prop} (hgd : o.guard = none) (t : TypeId) (parts : Array (Nat × Operand)) (ho : o.op = .build t parts) (cells : Array Value)
    (hf : P.built t (parts.map fun (i, x) => (i, a.eval x)).toList = some cells) (h : wpList P ops Q rest (a.put o.dst (.agg cells)) w) : wpList P ops Q (o :: rest) a w := by
  refine wpList_plain hgd fun K hK => ?_
  have := run_build w t (parts.map fun (i, x) => (i, a.eval x)) cells hf
  unfold Oper.wp
  simp [execOp, ho, this, Result.andThen]
  exact hK _ _ h
end Go.Own

end
section
namespace Go.Own
open Go.RowKit

section
variable {P : Program} {ops : Array Oper} {C : World → Prop}

/-- an operation waits for another, by way of others -/
inductive Reach (md : Region.Mode) (ops : Array Oper) : Oper → Nat → Prop
  | one {o : Oper} {e : Edge} {j : Nat} : e ∈ o.after → Region.binds md e = true → e.on = j → Reach md ops o j
  | step {o ok : Oper} {e : Edge} {j : Nat} : e ∈ o.after → Region.binds md e = true → ops[e.on]? = some ok → Reach md ops ok j → Reach md ops o j
theorem Reach.listed {md : Region.Mode} {ops : Array Oper} {listed : Array Bool} (hc : ∀ (j : Nat) (oj : Oper), ops[j]? = some oj → listed.getD j false = true → ∀ e ∈ oj.after, Region.binds md e = true → listed.getD e.on false = true) {o : Oper} {j : Nat} (h : Reach md ops o j) :
    (∀ e ∈ o.after, Region.binds md e = true → listed.getD e.on false = true) → listed.getD j false = true := by
  induction h with
  | one he hb hj => intro ha; rw [← hj]; exact ha _ he hb
  | step he hb hk _ ih => intro ha; exact ih (hc _ _ hk (ha _ he hb))

end
end Go.Own

end
section
namespace Go.Proofs.Ytameigmoabimiaa
open Go.RowKit Go.Own
namespace Tab
open Go.TabM
abbrev ptr (p : Nat) : Value := .pointer (some ⟨p, 0, none⟩)
section
variable {B : Nat} {w0 w : World} {Ps : List Asn} {q : Nat} {v : Value} {t : T}
end
section
variable {B : Nat} {w0 w : World} {Ps : List Asn} {q : Nat} {v : Value} {t : T} {N : Nat}
end
end Tab
end Go.Proofs.Ytameigmoabimiaa

end
section
namespace Go.Own
open Go.RowKit
/-- two results, the first a variable of many cells -/
theorem results_cell_two {P : Program} {fn : Func} {p q : Tmp} {ty : TypeId} (h : fn.results = #[.cell p ty, .tmp q]) (tmps : Array Value) (w : World) (g : Nat) (t : TypeId) (cs : Array Value) (fr : Nat × Nat) (d : TypeDesc) (v : Value)
    (hp : tmps.getD p undef = .pointer (some ⟨g, 0, none⟩)) (hq : tmps.getD q undef = v) (hg : w.heap[g]? = some (.cells cs t fr))
    (hu : P.underlying ty = some d) (hd : (match d with | .struct _ | .array _ _ => true | _ => false) = true) (hi : (P.info? ty).map (·.size) = some cs.size) :
    (results fn tmps).run P w = .ok (.tuple #[.agg cs, v]) w := by
  have hp' : tmps[p]?.getD undef = .pointer (some ⟨g, 0, none⟩) := by simpa using hp
  have hq' : tmps[q]?.getD undef = v := by simpa using hq
  simp [results, h, hp', hq', asAddr, run_loadVar_row w g t ty cs fr d hg hu hd hi]
end Go.Own

end
section
namespace Go.Proofs.Ytameigmoabimiaa
open Go.RowKit Go.Own

theorem Try.infoU8 : (Try.prog.info? 5).map (fun i => (i.zero, i.size, i.bytes)) = some (some (.int .u8 0), 1, 1) := by kernel_rfl

namespace Cod

/-- the many lowest bytes of n, the least significant one first -/
def le (n : Nat) : Nat → List UInt8
  | 0 => []
  | k + 1 => le n k ++ [UInt8.ofNat (n / 2 ^ (8 * k))]
/-- a writer as plain data: its room, what was written, its first error -/
structure WS where
  room : Int
  xs : List UInt8
  err : Int

def WS.lay (s : WS) (bs : List UInt8) : WS := if s.err ≠ 0 then s else if s.room - s.xs.length < bs.length then { s with err := 4 } else { s with xs := s.xs ++ bs }
def WS.num (s : WS) (n : Nat) (many : Int) : WS := if s.err ≠ 0 then s else if many < 0 ∨ 8 < many then { s with err := 1 } else s.lay (le n many.toNat)
end Cod
end Go.Proofs.Ytameigmoabimiaa

end
section
namespace Go.Proofs.Ytameigmoabimiaa
open Go.RowKit Go.Own
namespace Cod

/-- a reader as plain data: the bytes that are left, its first error -/
structure RS where
  l : List UInt8
  err : Int

theorem View.take {w : World} {D : Nat → Prop} {ao : Option Addr} {l : List UInt8} (h : View w D ao l) (n : Nat) : View w D ao (l.take n) := by
  rcases h with rfl | ⟨b, o, e, hS, hb, hc⟩
  · exact .inl (by simp)
  · refine .inr ⟨b, o, e, hS, hb, fun j hj => ?_⟩
    rw [List.length_take] at hj
    rw [hc j (by omega)]
    simp [List.getD, show j < n by omega]

theorem View.drop {w : World} {D : Nat → Prop} {b o : Nat} {l : List UInt8} (h : View w D (some ⟨b, o, none⟩) l) (n : Nat) : View w D (some ⟨b, o + n, none⟩) (l.drop n) := by
  rcases h with rfl | ⟨b', o', e, hS, hb, hc⟩
  · exact .inl (by simp)
  · cases e
    refine .inr ⟨b, o + n, rfl, hS, hb, fun j hj => ?_⟩
    rw [List.length_drop] at hj
    have := hc (n + j) (by omega)
    rw [Nat.add_assoc, this]
    simp [List.getD]

/-- bytes as a number, the least significant one first -/
def num : List UInt8 → Nat
  | [] => 0
  | c :: r => c.toNat + 256 * num r

end Cod
end Go.Proofs.Ytameigmoabimiaa

end
section
namespace Go.Proofs.Ytameigmoabimiaa
open Go.RowKit Go.Own
namespace Cod

def RS.num (r : RS) (many : Int) : Nat × RS :=
  if r.err ≠ 0 then (0, r) else if many < 0 ∨ 8 < many then (0, ⟨r.l, 1⟩) else if (r.l.length : Int) < many then (0, ⟨r.l, 10⟩) else (Cod.num (r.l.take many.toNat), ⟨r.l.drop many.toNat, 0⟩)
end Cod
end Go.Proofs.Ytameigmoabimiaa

end
section
namespace Go.Proofs.Ytameigmoabimiaa
open Go.RowKit Go.Own
namespace Cod

/-- a slice of bytes of one's own -/
def AB (ao : Option Addr) (n cap : Nat) (l : List UInt8) : Asn := ARow 5 1 (.slice ao n cap) n (l.map byteV)

theorem AB.view {w : World} {S : Nat → Prop} {ao : Option Addr} {n cap : Nat} {l : List UInt8} (h : (AB ao n cap l).holds S w) : View w S ao l := Row.view h
theorem AB.len {w : World} {S : Nat → Prop} {ao : Option Addr} {n cap : Nat} {l : List UInt8} (h : (AB ao n cap l).holds S w) : l.length = n ∧ n ≤ cap ∧ cap ≤ maxLen := by
  obtain ⟨ao', cap', hv, h1, h2, _⟩ := Row.form h
  simp only [Value.slice.injEq, true_and] at hv
  obtain ⟨rfl, rfl⟩ := hv
  exact ⟨by have := h.own.1; simpa using this, h1, h2⟩

section
variable {B : Nat} {w0 w : World} {Ps : List Asn} {p : Nat} {s : WS} {r : RS}

end

end Cod
end Go.Proofs.Ytameigmoabimiaa

end
section
namespace Go.Own
open Go.RowKit
/-- a slice that reads as these cells -/
def RdRow (w : World) (v : Value) (n : Nat) (xs : List Value) : Prop := ∃ ao cap, v = .slice ao n cap ∧ (n = 0 ∨ ∃ g, ao = some ⟨g, 0, none⟩ ∧ ∀ j u, xs[j]? = some u → w.cell? ⟨g, j, none⟩ = some u)
theorem cellLater' {W w : World} {a : Addr} {v : Value} (h : W.cell? a = some v) (hb : Below W.heap.size W w) : w.cell? a = some v := by
  have hlt : a.block < W.heap.size := by
    unfold World.cell? at h
    rcases Nat.lt_or_ge a.block W.heap.size with h1 | h1
    · exact h1
    · rw [Array.getElem?_eq_none h1] at h; simp at h
  unfold World.cell? at h ⊢
  rw [hb.block a.block hlt]
  exact h
theorem RdRow.later {W w : World} {v : Value} {n : Nat} {xs : List Value} (h : RdRow W v n xs) (hb : Below W.heap.size W w) : RdRow w v n xs := by
  obtain ⟨ao, cap, rfl, h⟩ := h
  refine ⟨ao, cap, rfl, ?_⟩
  rcases h with h | ⟨g, e, h⟩
  · exact .inl h
  · exact .inr ⟨g, e, fun j u hu => cellLater' (h j u hu) hb⟩
theorem rd_own {B : Nat} {w0 w : World} {Ps : List Asn} {e : TypeId} {size n : Nat} {v : Value} {xs : List Value} (H : St B w0 w Ps) (i : Nat) (hi : Ps[i]? = some (ARow e size v n xs)) : RdRow w v n xs := by
  obtain ⟨ao, cap, rfl⟩ := H.rowForm i hi
  refine ⟨ao, cap, rfl, ?_⟩
  cases ao with
  | none => exact .inl ((H.rowLen i hi).2.2.2 rfl).1
  | some a =>
    rcases Nat.eq_zero_or_pos n with h0 | hp
    · exact .inl h0
    · have hl := (H.rowLen i hi).1
      by_cases hs : size = 0
      · obtain ⟨S, hS, _⟩ := H.at i hi
        obtain ⟨ao', cap', hv, _, _, _, hg⟩ := Row.form hS
        simp only [Value.slice.injEq, true_and] at hv
        obtain ⟨rfl, rfl⟩ := hv
        obtain ⟨g, rfl, _⟩ := hg a rfl
        exact .inr ⟨g, rfl, fun j u hu => by have := (List.getElem?_eq_some_iff.1 hu).1; rw [hl, hs] at this; omega⟩
      · have hpos : 0 < n * size := Nat.mul_pos hp (Nat.pos_of_ne_zero hs)
        obtain ⟨g, hg, _⟩ := H.rowAt i hi 0 hpos
        cases hg
        refine .inr ⟨g, rfl, fun j u hu => ?_⟩
        have hj : j < n * size := by rw [← hl]; exact (List.getElem?_eq_some_iff.1 hu).1
        obtain ⟨g', hg', ⟨u', hu', hc⟩, _⟩ := H.rowAt i hi j hj
        cases hg'
        rw [hc, ← hu', hu]
end Go.Own
namespace Go.Proofs.Ytameigmoabimiaa
open Go.RowKit Go.Own
namespace Tab
open Go.TabM
end Tab
end Go.Proofs.Ytameigmoabimiaa

end
section
namespace Go.Own
open Go.RowKit
/-- a slice that reads as these cells, wherever it begins -/
def RdWin (w : World) (v : Value) (n : Nat) (xs : List Value) : Prop := ∃ ao cap, v = .slice ao n cap ∧ (n = 0 ∨ ∃ g o, ao = some ⟨g, o, none⟩ ∧ ∀ j u, xs[j]? = some u → w.cell? ⟨g, o + j, none⟩ = some u)
theorem RdWin.later {W w : World} {v : Value} {n : Nat} {xs : List Value} (h : RdWin W v n xs) (hb : Below W.heap.size W w) : RdWin w v n xs := by
  obtain ⟨ao, cap, e, h⟩ := h
  refine ⟨ao, cap, e, ?_⟩
  rcases h with h | ⟨g, o, e2, hc⟩
  · exact .inl h
  · exact .inr ⟨g, o, e2, fun j u hu => cellLater' (hc j u hu) hb⟩
end Go.Own

end
section
namespace Go.Own
open Go.RowKit
/-- a row of one's own, cut: the first k stay -/
theorem St.rowCut {B : Nat} {w0 w : World} {Ps : List Asn} {e : TypeId} {size n cap : Nat} {ao : Option Addr} {xs : List Value} (H : St B w0 w Ps) (i : Nat) (hi : Ps[i]? = some (ARow e size (.slice ao n cap) n xs)) (k : Nat) (hk : k ≤ n) :
    St B w0 w (Ps.set i (ARow e size (.slice ao k cap) k (xs.take (k * size)))) := by
  obtain ⟨S, hS, _, put⟩ := H.at i hi
  obtain ⟨hown, hset⟩ := hS
  refine put S w (ARow e size (.slice ao k cap) k (xs.take (k * size))) ⟨?_, ?_⟩ (Step.refl S w)
  · have hx := hown.1
    have hks : k * size ≤ n * size := Nat.mul_le_mul_right _ hk
    rcases hown.2 with ⟨hv, h0⟩ | ⟨g, cap', cur, hv, h0, hb, hnc, hcm, hcs, htake⟩
    · simp only [Value.slice.injEq] at hv
      obtain ⟨rfl, _, rfl⟩ := hv
      obtain rfl : k = 0 := by omega
      exact ⟨by simp, .inl ⟨rfl, rfl⟩⟩
    · simp only [Value.slice.injEq, true_and] at hv
      obtain ⟨rfl, rfl⟩ := hv
      refine ⟨by rw [List.length_take]; omega, .inr ⟨g, cap, cur, rfl, h0, hb, by omega, hcm, hcs, ?_⟩⟩
      rw [← htake, List.take_take, Nat.min_eq_left hks]
  · intro j
    rw [hset j]
    cases ao <;> simp [Value.ownBlock]
end Go.Own
namespace Go.Proofs.Ytameigmoabimiaa
open Go.RowKit Go.Own
namespace Tab
open Go.TabM
section
variable {B : Nat} {w0 w : World} {Ps : List Asn} {q : Nat} {v : Value} {t : T} {N : Nat}
end
end Tab
end Go.Proofs.Ytameigmoabimiaa

end
section
namespace Go.Proofs.Ytameigmoabimiaa
open Go.RowKit Go.Own
namespace Gho
open Go.GhoM Byt
abbrev aV (k : Nat) : Value := .int .u32 (k : Int)
abbrev ptr (p : Nat) : Value := .pointer (some ⟨p, 0, none⟩)
abbrev RowU (v : Value) (l : List Nat) (n : Nat) : Asn := ARow 31 1 v n (l.map aV)
def gC (v : Value) (room : Nat) : List Value := [v, .int .i64 (room : Int)]
/-- the document's list -/
def ARefG (p : Nat) (v : Value) (g : G) : Asn := AJoin [AVals p 59 (gC v g.room), RowU v g.L g.L.length]
theorem manyU : Many Try.prog 43 31 1 4 := ⟨Try.underlying43, by kernel_rfl, by decide⟩
theorem aV_one (l : List Nat) : ∀ u ∈ l.map aV, u.oneCell' = true := by
  intro u hu
  obtain ⟨k, _, rfl⟩ := List.mem_map.1 hu
  rfl
theorem cutToU (ao : Option Addr) (m cap k : Nat) (hk : k ≤ m) (hm : m ≤ cap) (hc : cap ≤ maxLen) (hno : ao = none → m = 0 ∧ cap = 0) (o : Oper) (x y : Operand) (ho : o.op = .slice 43 x none (some y) none) (ρ : Operand → Value) (w : World) (h0 : ρ x = .slice ao m cap) (h1 : ρ y = .int .i64 (k : Int)) :
    (execOp ρ o).run Try.prog w = .ok (.value (.slice ao k cap)) w := by
  unfold maxLen at hc
  cases ao with
  | none =>
    obtain ⟨rfl, rfl⟩ := hno rfl
    obtain rfl : k = 0 := by omega
    simp [execOp, ho, h0, h1, go_sem]
  | some a =>
    simp [execOp, ho, h0, h1, go_sem]
    omega
theorem cutFromU (ao : Option Addr) (m cap k : Nat) (hk : k ≤ m) (hm : m ≤ cap) (hc : cap ≤ maxLen) (hno : ao = none → m = 0 ∧ cap = 0) :
    ∃ a' c', (∀ (o : Oper) (x y : Operand), o.op = .slice 43 x (some y) none none → ∀ (ρ : Operand → Value) w, ρ x = .slice ao m cap → ρ y = .int .i64 (k : Int) → (execOp ρ o).run Try.prog w = .ok (.value (.slice a' (m - k) c')) w) ∧
      (a' = none → m - k = 0 ∧ c' = 0) ∧ (∀ (w : World) (xs : List Value), xs.length = m → (∀ g, ao = some ⟨g, 0, none⟩ → ∀ j u, xs[j]? = some u → w.cell? ⟨g, j, none⟩ = some u) → (∀ a, ao = some a → ∃ g, a = ⟨g, 0, none⟩) → ∀ a, a' = some a → ∀ j u, (xs.drop k)[j]? = some u → w.cell? (a.add j) = some u) := by
  have hc0 := hc
  unfold maxLen at hc
  cases ao with
  | none =>
    obtain ⟨rfl, rfl⟩ := hno rfl
    obtain rfl : k = 0 := by omega
    exact ⟨none, 0, fun o x y ho ρ w h0 h1 => by simp [execOp, ho, h0, h1, go_sem], fun _ => ⟨rfl, rfl⟩, fun w xs _ _ _ a h => by cases h⟩
  | some a =>
    by_cases hck : cap = k
    · refine ⟨some a, 0, fun o x y ho ρ w h0 h1 => ?_, (fun h => by cases h), fun w xs hl _ _ a' h j u hu => ?_⟩
      · simp [execOp, ho, h0, h1, go_sem]
        rw [if_pos hk, if_pos hck, hck]; simp
      · rw [List.drop_eq_nil_of_le (by omega)] at hu; simp at hu
    · refine ⟨some (a.add k), cap - k, fun o x y ho ρ w h0 h1 => ?_, (fun h => by cases h), fun w xs hl hcl hg a' h j u hu => ?_⟩
      · simp [execOp, ho, h0, h1, go_sem]
        rw [if_pos hk, if_neg hck]
      · obtain ⟨g, rfl⟩ := hg a rfl
        cases h
        rw [add_of, Nat.zero_add, add_of]
        rw [List.getElem?_drop] at hu
        exact hcl g rfl _ u hu

theorem drop_none {g : G} {a : Nat} (h : has g a = false) : drop g a = g := by
  unfold drop
  rw [List.erase_of_not_mem (has_not.1 h)]
theorem find_eq {a i : Nat} {L : List Nat} (h : i ≤ find a L) (hi : L[i]? = some a) : find a L = i := by
  rcases Nat.lt_or_ge i (find a L) with h2 | h2
  · exact absurd hi (find_before a L i h2)
  · omega
theorem find_next {a i : Nat} {L : List Nat} (h : i ≤ find a L) (hl : i < L.length) (hi : L[i]? ≠ some a) : i + 1 ≤ find a L := by
  rcases Nat.lt_or_ge i (find a L) with h2 | h2
  · exact h2
  · obtain rfl : find a L = i := by omega
    exact absurd (find_at a L hl) hi
section
variable {B : Nat} {w0 w : World} {Ps : List Asn} {p : Nat} {v : Value} {g : G}
theorem ref_open (h : Own.St B w0 w (ARefG p v g :: Ps)) : Own.St B w0 w (AVals p 59 (gC v g.room) :: RowU v g.L g.L.length :: Ps) := h.openJ
theorem ref_close (h : Own.St B w0 w (AVals p 59 (gC v g.room) :: RowU v g.L g.L.length :: Ps)) : Own.St B w0 w (ARefG p v g :: Ps) := Own.St.closeJ (Qs := [_, _]) h
set_option maxHeartbeats 3200000 in
theorem dropR_any (H : Own.St B w0 w (ARefG p v g :: Ps)) (hn : g.L.length ≤ 100000) (a : Nat) : Calls Try.prog 34 #[ptr p, aV a] w fun e w' => e = .returned (.bool (has g a)) ∧ ∃ v', Own.St B w0 w' (ARefG p v' (drop g a) :: Ps) := by
  have h0 := ref_open H
  obtain ⟨ao, cap, rfl⟩ := h0.rowForm 1 rfl
  obtain ⟨n, hnn⟩ : ∃ n, n = g.L.length := ⟨_, rfl⟩
  rw [← hnn] at h0 hn
  have c0 := (h0.cellV 0 rfl 0 rfl).1
  obtain ⟨hx1, hx2, hx3, hx4⟩ := h0.rowLen 1 rfl
  have hx5 : cap ≤ 9223372036854775807 := by unfold maxLen at hx3; omega
  obtain ⟨r, hr⟩ : ∃ r, r = has g a := ⟨_, rfl⟩
  rw [← hr]
  have HR := Lib.hid hr
  have HN := Lib.hid hnn
  have H0 := Lib.hid h0
  have HX3 := Lib.hid hx3
  have HX4 := Lib.hid hx4
  clear h0 H hnn hx1 hx3 hx4 hr
  go_enter Try.func34, Try.ntmps34
  go_wp2
  go_loopw [5] (fun v5 wr => ∃ i : Nat, i ≤ n ∧ v5 = .int .i64 (i : Int) ∧ wr = w ∧ i ≤ find a g.L) (fun v5 _ => n - (intOf v5).toNat)
  case atStart => exact ⟨0, Nat.zero_le _, rfl, rfl, Nat.zero_le _⟩
  case round =>
    obtain ⟨i, hin, rfl, hw, hf⟩ := hrel
    subst hw
    have HF := Lib.hid hf
    clear hf
    by_cases hi : (i : Int) < (n : Int)
    · have hin2 : i < n := by omega
      have hil : i < g.L.length := by rw [← HN.out]; exact hin2
      obtain ⟨b, hb, ⟨u, hu, hc⟩, _, _⟩ := H0.out.rowAt 1 rfl i (by rw [Nat.mul_one]; exact hin2)
      subst hb
      obtain ⟨x, hx⟩ : ∃ x, x = g.L[i] := ⟨_, rfl⟩
      have hu2 : u = aV x := by
        rw [List.getElem?_map, List.getElem?_eq_getElem hil, ← hx] at hu
        exact (Option.some.inj hu).symm
      subst hu2
      have hgi : g.L[i]? = some x := by rw [hx]; exact List.getElem?_eq_getElem hil
      have HGI := Lib.hid hgi
      clear hu hgi hx
      by_cases he : x = a
      · subst he
        have hm : x ∈ g.L := List.mem_of_getElem? HGI.out
        have hfi : find x g.L = i := find_eq HF.out HGI.out
        have hrt : r = true := by rw [HR.out]; exact has_iff.2 hm
        have HE : Hid ((drop g x).L = g.L.take i ++ g.L.drop (i + 1)) := by show g.L.erase x = _; rw [erase_find x g.L hm, hfi]
        have hE := H0.out.emptyRow 31 1
        have HEM := Lib.hid hE
        have c1 := (HEM.out.cellV 1 rfl 0 rfl).1
        obtain ⟨af, cf, hcut, hnf, hcell⟩ := cutFromU (some ⟨b, 0, none⟩) n cap (i + 1) (by omega) hx2 (by unfold maxLen; omega) (by intro h; cases h)
        have HCUT := Lib.hid hcut
        have HCL := Lib.hid hcell
        have HNF := Lib.hid hnf
        have CE : Hid (∀ a', some (⟨b, 0, none⟩ : Addr) = some a' → ∀ j u, ((g.L.take i).map aV)[j]? = some u → (wr.alloc (.cells #[] 31)).cell? (a'.add j) = some u) := by
          intro a' ha j u hu
          cases ha
          obtain ⟨ao', c', e, h⟩ := rd_own HEM.out 2 rfl
          cases e
          rcases h with h | ⟨g', e, h⟩
          · omega
          · cases e
            rw [add_of, Nat.zero_add]
            refine h j u ?_
            rw [List.map_take, List.getElem?_take] at hu
            split at hu
            · exact hu
            · cases hu
        have TL : Hid (((g.L.take i).map aV).length = i * 1) := by show _ = _; rw [List.length_map, List.length_take, Nat.mul_one]; omega
        have DL : Hid (((g.L.map aV).drop (i + 1)).length = (n - (i + 1)) * 1) := by show _ = _; rw [List.length_drop, List.length_map, Nat.mul_one, HN.out]
        have ML : Hid ((g.L.map aV).length = n) := by show _ = _; rw [List.length_map, HN.out]
        have OD : Hid (∀ u ∈ (g.L.map aV).drop (i + 1), u.oneCell' = true) := fun u hu => aV_one _ u (List.mem_of_mem_drop hu)
        clear hcut hcell hnf hE hm
        subst hrt
        go_wp2_with (first
          | (refine wpList_val rfl (cutToU (some ⟨b, 0, none⟩) n cap i (Nat.le_of_lt hin2) hx2 (by unfold maxLen; omega) (by intro h; cases h) _ _ _ rfl _ _ rfl rfl) ?_)
          | (refine wpList_val rfl (HCUT.out _ _ _ rfl _ _ rfl rfl) ?_)
          | (at_builtin; refine wpList_many_append manyU rfl (.tmp 25) (.tmp 31) rfl HEM.out 0 rfl rfl (some ⟨b, 0, none⟩) i cap ((g.L.take i).map aV) rfl (by intro h; cases h) TL.out CE.out (aV_one _) (by omega) (by decide) ?_; intro a2 c2 w2 h2; simp only [List.set_cons_zero, Nat.zero_add, List.nil_append] at h2 ⊢; have H2 := Lib.hid h2; have c3 := (h2.cellV 1 rfl 0 rfl).1; have CD : Hid (∀ a', af = some a' → ∀ j u, ((g.L.map aV).drop (i + 1))[j]? = some u → w2.cell? (a'.add j) = some u) := (fun a' ha => (by obtain ⟨ao', c', e, h⟩ := rd_own h2 2 rfl; cases e; exact HCL.out w2 (g.L.map aV) ML.out (fun g' hg => (by cases hg; rcases h with h | ⟨g', e, h⟩; (· omega); (· cases e; exact h))) (fun a'' ha'' => ⟨b, (by cases ha''; rfl)⟩) a' ha)); clear h2)
          | (at_builtin; refine wpList_many_append manyU rfl (.tmp 33) (.tmp 40) rfl H2.out 0 rfl rfl af (n - (i + 1)) cf ((g.L.map aV).drop (i + 1)) rfl HNF.out DL.out CD.out OD.out (by omega) (by decide) ?_; intro a3 c3 w3 h3; simp only [List.set_cons_zero] at h3 ⊢; have H3 := Lib.hid h3; have c4 := h3.cellV 1 rfl 0 rfl; clear h3; obtain ⟨c4, c5⟩ := c4))
        go_ret
        refine ⟨rfl, .slice a3 (i + (n - (i + 1))) c3, ?_⟩
        have h := H3.out.storeV 1 rfl 0 (.slice a3 (i + (n - (i + 1))) c3)
        simp only [List.set_cons_zero, List.set_cons_succ] at h
        have h2 := (h.swap2.front 2 rfl).drop 1
        simp only [List.drop_succ_cons, List.drop_zero] at h2
        refine ref_close ?_
        rw [HE.out, List.length_append, List.length_take, List.length_drop, ← HN.out, Nat.min_eq_left (Nat.le_of_lt hin2)]
        have e : (g.L.take i ++ g.L.drop (i + 1)).map aV = (g.L.take i).map aV ++ (g.L.map aV).drop (i + 1) := by rw [List.map_append, List.map_drop]
        unfold RowU
        rw [e]
        exact h2
      · have heb : ((x : Int) == (a : Int)) = false := by simp; omega
        go_wp2_with (fail)
        go_roundw
        case rel => exact ⟨i + 1, by omega, by go_num, trivial, find_next HF.out hil (by rw [HGI.out]; simpa using he)⟩
        case measure => simp [intOf]; omega
    · have hrf : r = false := by
        rw [HR.out]
        have h1 := HF.out
        have h2 := find_le a g.L
        cases hh : has g a
        · rfl
        · have := (find_mem a g.L).2 (has_iff.1 hh)
          have h3 := HN.out
          omega
      subst hrf
      go_wp2_with (fail)
      go_ret
      refine ⟨rfl, .slice ao g.L.length cap, ?_⟩
      rw [drop_none HR.out.symm]
      have h := H0.out
      rw [HN.out] at h
      exact ref_close h
/-- a slice literal of one address, as a row of one's own -/
theorem one_row (H : Own.St B w0 w Ps) (a : Nat) : Own.St B w0 (w.alloc (.cells #[aV a] 31)) (RowU (.slice (some ⟨w.heap.size, 0, none⟩) 1 1) [a] 1 :: Ps) :=
  H.new (S' := fun k => k = w.heap.size) (ARow 31 1 _ 1 [aV a]) (Row.made w (#[aV a] : Array Value) 31 1 1 (by unfold maxLen; decide) (by simp)) (((Step.refl (fun _ => False) w).alloc (.cells #[aV a] 31)).to (fun k hk => .inr (Nat.le_of_eq hk.symm)))
set_option maxHeartbeats 3200000 in
theorem askR_any (H : Own.St B w0 w (ARefG p v g :: Ps)) (hn : g.L.length ≤ 100000) (hrm : g.room ≤ 100000) (a : Nat) : Calls Try.prog 29 #[ptr p, aV a] w fun e w' => e = .returned (.bool (has g a)) ∧ ∃ v', Own.St B w0 w' (ARefG p v' (GhoM.ask g a) :: Ps) := by
  have C := Lib.hid (dropR_any H hn a)
  obtain ⟨r, hr⟩ : ∃ r, r = has g a := ⟨_, rfl⟩
  rw [← hr] at C ⊢
  have HR := Lib.hid hr
  clear hr H
  go_enter Try.func29, Try.ntmps29
  go_wp2_with (fail)
  refine C.out.mono ?_
  rintro e w1 ⟨rfl, v1, h⟩
  clear C
  cases r
  · rw [drop_none HR.out.symm] at h
    have h0 := ref_open h
    obtain ⟨ao, cap, rfl⟩ := h0.rowForm 1 rfl
    obtain ⟨n, hnn⟩ : ∃ n, n = g.L.length := ⟨_, rfl⟩
    obtain ⟨room, hroom⟩ : ∃ n, n = g.room := ⟨_, rfl⟩
    rw [← hnn, ← hroom] at h0
    rw [← hnn] at hn
    rw [← hroom] at hrm
    obtain ⟨hx1, hx2, hx3, hx4⟩ := h0.rowLen 1 rfl
    have hrow := one_row h0 a
    have HW := Lib.hid hrow
    have c0 := (hrow.cellV 1 rfl 0 rfl).1
    have c1 := (hrow.cellV 1 rfl 1 rfl).1
    have CE : Hid (∀ a', ao = some a' → ∀ j u, (g.L.map aV)[j]? = some u → (w1.alloc (.cells #[aV a] 31)).cell? (a'.add j) = some u) := by
      intro a' ha j u hu
      obtain ⟨ao', c', e, h⟩ := rd_own hrow 2 rfl
      cases e
      rcases h with h | ⟨g', e, h⟩
      · have := (List.getElem?_eq_some_iff.1 hu).1
        rw [List.length_map] at this
        omega
      · rw [e] at ha
        cases ha
        rw [add_of, Nat.zero_add]
        exact h j u hu
    obtain ⟨k, hk⟩ : ∃ k, k = min (1 + n) room := ⟨_, rfl⟩
    have hmin : min (((1 + n : Nat) : Nat) : Int) (room : Int) = (k : Int) := by omega
    have hmin2 : min (1 + (n : Int)) (room : Int) = (k : Int) := by omega
    have hk1 : k ≤ 1 + n := by omega
    have ML : Hid ((g.L.map aV).length = n * 1) := by show _ = _; rw [List.length_map, Nat.mul_one, hnn]
    have HNO := Lib.hid hx4
    have HK := Lib.hid hk
    have HN := Lib.hid hnn
    have HRM := Lib.hid hroom
    clear h h0 hrow hx1 hx3 hx4 hk hnn hroom
    go_wp2_with (first
      | (at_builtin; refine wpList_many_append manyU rfl (.tmp 11) (.tmp 15) rfl HW.out 0 rfl rfl ao n cap (g.L.map aV) rfl HNO.out ML.out CE.out (aV_one _) (by omega) (by decide) ?_; intro a2 c2 w2 h2; simp only [List.set_cons_zero] at h2 ⊢; have H2 := Lib.hid h2; have c3 := h2.cellV 1 rfl 0 rfl; have c4 := (h2.cellV 1 rfl 1 rfl).1; have q := h2.rowLen 0 rfl; have Q := Lib.hid q; clear h2 q; obtain ⟨c3, c5⟩ := c3)
      | (refine wpList_val rfl (cutToU a2 (1 + n) c2 k hk1 Q.out.2.1 Q.out.2.2.1 Q.out.2.2.2 _ _ _ rfl _ _ rfl rfl) ?_))
    go_ret
    refine ⟨rfl, .slice a2 k c2, ?_⟩
    have h := H2.out.storeV 1 rfl 0 (.slice a2 k c2)
    simp only [List.set_cons_zero, List.set_cons_succ] at h
    have h2 := (h.swap2.front 2 rfl).drop 1
    simp only [List.drop_succ_cons, List.drop_zero] at h2
    have h3 := h2.rowCut 1 rfl k hk1
    simp only [Nat.mul_one] at h3
    refine ref_close ?_
    have e1 : (GhoM.ask g a).L = (a :: g.L).take k := by
      rw [ask_unknown HR.out.symm, HK.out, HRM.out]
      have hl : (a :: g.L).length = 1 + n := by rw [List.length_cons, ← HN.out, Nat.add_comm]
      rcases Nat.le_total (1 + n) g.room with h | h
      · rw [Nat.min_eq_left h, List.take_of_length_le (by omega), List.take_of_length_le (by omega)]
      · rw [Nat.min_eq_right h]
    rw [ask_room, e1, List.length_take, List.length_cons, ← HN.out, Nat.min_eq_left (by omega), ← HRM.out]
    have e2 : ((a :: g.L).take k).map aV = ([a].map aV ++ g.L.map aV).take k := by rw [List.map_take]; rfl
    unfold RowU
    rw [e2]
    exact h3
  · have H1 := Lib.hid h
    clear h
    go_wp2_with (fail)
    go_ret
    refine ⟨rfl, v1, ?_⟩
    have e : GhoM.ask g a = GhoM.drop g a := by unfold GhoM.ask; rw [if_pos HR.out.symm]
    rw [e]
    exact H1.out
end
end Gho
end Go.Proofs.Ytameigmoabimiaa

end
section
namespace Go.Proofs.Ytameigmoabimiaa
open Go.RowKit Go.Own
namespace Gho
open Go.GhoM Byt
set_option maxHeartbeats 3200000 in
theorem sameR_any (l1 l2 : List Nat) (n1 n2 : Nat) (v1 v2 : Value) (w : World) (h1 : RdRow w v1 n1 (l1.map aV)) (h2 : RdRow w v2 n2 (l2.map aV)) (e1 : l1.length = n1) (e2 : l2.length = n2) (hb : n1 ≤ 1000000) :
    Calls Try.prog 18 #[v1, v2] w fun e w' => e = .returned (.bool (l1 == l2)) ∧ Below w.heap.size w w' := by
  obtain ⟨a1, c1, rfl, h1⟩ := h1
  obtain ⟨a2, c2, rfl, h2⟩ := h2
  obtain ⟨r, hr⟩ : ∃ r, r = (l1 == l2) := ⟨_, rfl⟩
  rw [← hr]
  have HR := Lib.hid hr
  have H1 := Lib.hid h1
  have H2 := Lib.hid h2
  have E1 := Lib.hid e1
  have E2 := Lib.hid e2
  clear h1 h2 e1 e2 hr
  by_cases hn : n1 = n2
  · subst hn
    go_enter Try.func18, Try.ntmps18
    go_wp2
    go_loopw [5] (fun v5 wr => ∃ i : Nat, i ≤ n1 ∧ v5 = .int .i64 (i : Int) ∧ Below w.heap.size w wr ∧ ∀ j, j < i → l1[j]? = l2[j]?) (fun v5 _ => n1 - (intOf v5).toNat)
    case atStart => exact ⟨0, Nat.zero_le _, rfl, Below.refl _ _, fun j hj => absurd hj (Nat.not_lt_zero _)⟩
    case round =>
      obtain ⟨i, hin, rfl, hbw, hall⟩ := hrel
      have HB := Lib.hid hbw
      have HALL := Lib.hid hall
      clear hbw hall
      by_cases hi : (i : Int) < (n1 : Int)
      · have hin2 : i < n1 := by omega
        rcases H1.out with h | ⟨g, rfl, hc⟩
        · omega
        rcases H2.out with h | ⟨g2, rfl, hc2⟩
        · omega
        have k1 : i < l1.length := by rw [E1.out]; exact hin2
        have k2 : i < l2.length := by rw [E2.out]; exact hin2
        obtain ⟨x, hx⟩ : ∃ x, x = l1[i] := ⟨_, rfl⟩
        obtain ⟨y, hy⟩ : ∃ x, x = l2[i] := ⟨_, rfl⟩
        have g1 : l1[i]? = some x := by rw [hx]; exact List.getElem?_eq_getElem k1
        have g3 : l2[i]? = some y := by rw [hy]; exact List.getElem?_eq_getElem k2
        have q1 := cellLater' (hc i (aV x) (by rw [List.getElem?_map, g1]; rfl)) HB.out
        have q2 := cellLater' (hc2 i (aV y) (by rw [List.getElem?_map, g3]; rfl)) HB.out
        have G1 := Lib.hid g1
        have G2 := Lib.hid g3
        clear hc hc2 hx hy H1 H2 g1 g3 k1 k2
        by_cases hxy : x = y
        · subst hxy
          go_wp2
          go_quiet (fail)
          go_wp2
          go_roundw
          case rel =>
            refine ⟨i + 1, by omega, by go_num, (Own.St.start w).later HB.out |>.drewN nq |>.below, fun j hj => ?_⟩
            rcases Nat.lt_or_ge j i with h | h
            · exact HALL.out j h
            · obtain rfl : j = i := by omega
              rw [G1.out, G2.out]
          case measure => simp [intOf]; omega
        · have hne : ¬ (x : Int) = (y : Int) := by omega
          have hne2 : ((x : Int) != (y : Int)) = true := by simp; omega
          have hrf : r = false := by
            rw [HR.out]
            cases hh : (l1 == l2)
            · rfl
            · have := eq_of_beq hh
              subst this
              have := G1.out.symm.trans G2.out
              exact absurd (Option.some.inj this) hxy
          subst hrf
          go_wp2
          go_quiet (fail)
          go_wp2
          go_ret
          exact ⟨rfl, (Own.St.start w).later HB.out |>.drewN nq |>.below⟩
      · have hrt : r = true := by
          rw [HR.out, beq_iff_eq]
          apply List.ext_getElem?
          intro j
          rcases Nat.lt_or_ge j i with h | h
          · exact HALL.out j h
          · rw [List.getElem?_eq_none (by rw [E1.out]; omega), List.getElem?_eq_none (by rw [E2.out]; omega)]
        subst hrt
        go_wp2
        go_ret
        exact ⟨rfl, HB.out⟩
  · have hrf : r = false := by
      rw [HR.out]
      cases hh : (l1 == l2)
      · rfl
      · have := eq_of_beq hh
        subst this
        exact absurd (E1.out.symm.trans E2.out) hn
    have hne : ¬ (n1 : Int) = (n2 : Int) := by omega
    subst hrf
    go_enter Try.func18, Try.ntmps18
    go_wp2
    go_ret
    exact ⟨rfl, Below.refl _ _⟩
/-- returns true, and old memory is as it was -/
def RetYes (w : World) (e : Ending) (w' : World) : Prop := e = .returned (.bool true) ∧ Below w.heap.size w w'
abbrev errG (n : Nat) : Value := .int .i64 (n : Int)
def mayBe (num : Int) : Bool := decide (0 ≤ num) && decide (num ≤ 4096)
/-- what the landed ghost must keep -/
structure Kept (W : World) where
  A : Nat → G → Asn
  new : ∀ {B : Nat} {w0 w : World} {Ps : List Asn} (num : Int), Below W.heap.size W w → Own.St B w0 w Ps → -9223372036854775808 ≤ num ∧ num ≤ 9223372036854775807 →
    Calls Try.prog 21 #[.int .i64 num] w fun e w' => if mayBe num = true then ∃ p, e = .returned (.tuple #[ptr p, errG 0]) ∧ Own.St B w0 w' (A p (newG num.toNat) :: Ps) else e = .returned (.tuple #[.pointer none, errG 1]) ∧ Own.St B w0 w' Ps
  ask : ∀ {B : Nat} {w0 w : World} {Ps : List Asn} {p : Nat} {g : G} (a : Nat), Below W.heap.size W w → Own.St B w0 w (A p g :: Ps) → Ok g → g.room ≤ 4096 → a < 4294967296 →
    Calls Try.prog 25 #[ptr p, aV a] w fun e w' => e = .returned (.bool (has g a)) ∧ Own.St B w0 w' (A p (GhoM.ask g a) :: Ps)
  drop : ∀ {B : Nat} {w0 w : World} {Ps : List Asn} {p : Nat} {g : G} (a : Nat), Below W.heap.size W w → Own.St B w0 w (A p g :: Ps) → Ok g → g.room ≤ 4096 → a < 4294967296 →
    Calls Try.prog 31 #[ptr p, aV a] w fun e w' => e = .returned (.bool (has g a)) ∧ Own.St B w0 w' (A p (GhoM.drop g a) :: Ps)
  nilAsk : ∀ {w : World} (a : Nat), Below W.heap.size W w → a < 4294967296 → Calls Try.prog 25 #[.pointer none, aV a] w fun e w' => e = .returned (.bool false) ∧ Below w.heap.size w w'
  nilDrop : ∀ {w : World} (a : Nat), Below W.heap.size W w → a < 4294967296 → Calls Try.prog 31 #[.pointer none, aV a] w fun e w' => e = .returned (.bool false) ∧ Below w.heap.size w w'
end Gho
end Go.Proofs.Ytameigmoabimiaa

end
section
namespace Go.Proofs.Ytameigmoabimiaa
open Go.RowKit Go.Own
namespace Hot
open Go.GhoM Go.HotM Byt Gho
abbrev errH (n : Nat) : Value := .int .i64 (n : Int)
/-- what the landed hot must keep -/
structure Kept (W : World) where
  A : Nat → H → Asn
  new : ∀ {B : Nat} {w0 w : World} {Ps : List Asn} (room known : Int), Below W.heap.size W w → Own.St B w0 w Ps → (-9223372036854775808 ≤ room ∧ room ≤ 9223372036854775807) → (-9223372036854775808 ≤ known ∧ known ≤ 9223372036854775807) →
    Calls Try.prog 9 #[.int .i64 room, .int .i64 known] w fun e w' => if mayBe room = true ∧ mayBe known = true then ∃ p, e = .returned (.tuple #[ptr p, errH 0]) ∧ Own.St B w0 w' (A p (newH room.toNat known.toNat) :: Ps) else e = .returned (.tuple #[.pointer none, errH 1]) ∧ Own.St B w0 w' Ps
  get : ∀ {B : Nat} {w0 w : World} {Ps : List Asn} {p : Nat} {h : H} (a : Nat), Below W.heap.size W w → Own.St B w0 w (A p h :: Ps) → HotM.Ok h → a < 4294967296 →
    Calls Try.prog 14 #[ptr p, aV a] w fun e w' => ∃ ao c, e = .returned (.tuple #[.slice ao (bytesOf h a).length c, .bool (isIn h a)]) ∧ Own.St B w0 w' (AB ao (bytesOf h a).length c (bytesOf h a) :: A p (HotM.get h a) :: Ps)
  offer : ∀ {B : Nat} {w0 w : World} {Ps : List Asn} {p : Nat} {h : H} (a : Nat) (ao : Option Addr) (n cap : Nat) (b : List UInt8), Below W.heap.size W w → Own.St B w0 w (A p h :: Ps) → HotM.Ok h → a < 4294967296 → Given w ao n cap b → n ≤ 20000 →
    Calls Try.prog 12 #[ptr p, aV a, .slice ao n cap] w fun e w' => e = .returned (.bool (offB h a)) ∧ Own.St B w0 w' (A p (HotM.offer h a b) :: Ps)
  drop : ∀ {B : Nat} {w0 w : World} {Ps : List Asn} {p : Nat} {h : H} (a : Nat), Below W.heap.size W w → Own.St B w0 w (A p h :: Ps) → HotM.Ok h → a < 4294967296 →
    Calls Try.prog 16 #[ptr p, aV a] w fun e w' => e = .returned (.bool (isIn h a)) ∧ Own.St B w0 w' (A p (HotM.drop h a) :: Ps)
  all : ∀ {B : Nat} {w0 w : World} {Ps : List Asn} {p : Nat} {h : H}, Below W.heap.size W w → Own.St B w0 w (A p h :: Ps) → HotM.Ok h →
    Calls Try.prog 19 #[ptr p] w fun e w' => ∃ ao c, e = .returned (.slice ao (keys h).length c) ∧ Own.St B w0 w' (RowU (.slice ao (keys h).length c) (keys h) (keys h).length :: A p h :: Ps)
  nilGet : ∀ {w : World} (a : Nat), Below W.heap.size W w → a < 4294967296 → Calls Try.prog 14 #[.pointer none, aV a] w fun e w' => ∃ ao c, e = .returned (.tuple #[.slice ao 0 c, .bool false]) ∧ Below w.heap.size w w'
  nilOffer : ∀ {w : World} (a : Nat) (ao : Option Addr) (n cap : Nat) (b : List UInt8), Below W.heap.size W w → a < 4294967296 → Given w ao n cap b → Calls Try.prog 12 #[.pointer none, aV a, .slice ao n cap] w fun e w' => e = .returned (.bool false) ∧ Below w.heap.size w w'
  nilDrop : ∀ {w : World} (a : Nat), Below W.heap.size W w → a < 4294967296 → Calls Try.prog 16 #[.pointer none, aV a] w fun e w' => e = .returned (.bool false) ∧ Below w.heap.size w w'
  nilAll : ∀ {w : World}, Below W.heap.size W w → Calls Try.prog 19 #[.pointer none] w fun e w' => ∃ ao c, e = .returned (.slice ao 0 c) ∧ Below w.heap.size w w'
end Hot
end Go.Proofs.Ytameigmoabimiaa

end
section
namespace Go.HotM
open Go.GhoM
theorem rest_filter (a : Nat) : ∀ L : List It, (L.map (·.addr)).Nodup → rest a L = L.filter fun x => !(x.addr == a)
  | [], _ => rfl
  | x :: L, hn => by
    rw [List.map_cons, List.nodup_cons] at hn
    unfold rest findI
    by_cases he : x.addr = a
    · rw [if_pos he, List.filter_cons_of_neg (by simpa using he), List.filter_eq_self.2]
      · rfl
      · intro y hy
        have : y.addr ≠ a := fun e => hn.1 (List.mem_map.2 ⟨y, hy, by rw [e, he]⟩)
        simpa using this
    · rw [if_neg he, List.filter_cons_of_pos (by simpa using he), ← rest_filter a L hn.2]
      rfl
theorem keys_filter {h : H} (ok : Ok h) (a : Nat) : (keys h).erase a = (keys h).filter fun x => !(x == a) := by
  rw [ok.once.erase_eq_filter]
  congr 1
/-- the order behind Get -/
theorem get_order {h : H} (ok : Ok h) (a : Nat) : keys (get h a) = (if isIn h a = true then [a] else []) ++ (keys h).filter fun x => !(x == a) := by
  cases hi : isIn h a
  · rw [get_not hi, if_neg (by simp), List.nil_append, ← keys_filter ok, List.erase_of_not_mem (isIn_not.1 hi)]
  · rw [get_keys ok hi, if_pos rfl, keys_filter ok]
    rfl
theorem offer_front {h : H} (ok : Ok h) {a : Nat} {b : List UInt8} (hb : offB h a = true) : (offer h a b).L = ⟨a, b⟩ :: (rest a h.L).take (h.room - 1) ∧ 1 ≤ h.room := by
  have hr : 1 ≤ h.room := by
    unfold offB at hb
    cases hi : isIn h a
    · rw [hi] at hb
      simp at hb
      omega
    · have h1 := isIn_iff.1 hi
      have h2 := rest_len h1
      have := ok.len
      omega
  refine ⟨?_, hr⟩
  unfold offer
  simp only [hb, if_true]
  unfold frontL
  obtain ⟨d, hd⟩ : ∃ d, h.room = d + 1 := ⟨h.room - 1, by omega⟩
  rw [hd, List.take_succ_cons]
  rfl
theorem offer_in {h : H} (ok : Ok h) {a : Nat} {b : List UInt8} (hb : offB h a = true) : isIn (offer h a b) a = true := by
  rw [isIn_iff]
  unfold keys
  rw [(offer_front ok hb).1]
  simp
theorem offer_keys {h : H} (ok : Ok h) {a : Nat} {b : List UInt8} (hb : offB h a = true) : ∃ t, keys (offer h a b) = a :: t := by
  unfold keys
  rw [(offer_front ok hb).1]
  exact ⟨_, rfl⟩
theorem offer_not {h : H} {a : Nat} {b : List UInt8} (hb : offB h a = false) : (offer h a b).L = h.L := by
  unfold offer
  simp only [hb]
  rfl
theorem offer_groom (h : H) (a : Nat) (b : List UInt8) : (offer h a b).g.room = h.g.room := by
  unfold offer
  show (if isIn h a = true then h.g else GhoM.ask h.g a).room = _
  split
  · rfl
  · exact ask_room _ _
/-- what is noted of each block that is there -/
def Lst (h : H) (f : Nat → List UInt8) : Prop := ∀ x ∈ h.L, f x.addr = x.b
theorem lst_offer {h : H} (ok : Ok h) {f : Nat → List UInt8} (hl : Lst h f) {a : Nat} {b : List UInt8} (hb : offB h a = true) (f' : Nat → List UInt8) (h1 : f' a = b) (h2 : ∀ c, c ≠ a → f' c = f c) : Lst (offer h a b) f' := by
  intro x hx
  rw [(offer_front ok hb).1] at hx
  rcases List.mem_cons.1 hx with rfl | hx
  · exact h1
  · have hm := List.mem_of_mem_take hx
    have hne : x.addr ≠ a := by
      intro e
      rw [rest_filter a h.L ok.once] at hm
      have := (List.mem_filter.1 hm).2
      simp [e] at this
    rw [h2 _ hne]
    exact hl x (rest_mem hm)
theorem lst_offer0 {h : H} {f : Nat → List UInt8} (hl : Lst h f) {a : Nat} {b : List UInt8} (hb : offB h a = false) : Lst (offer h a b) f := by
  intro x hx
  rw [offer_not hb] at hx
  exact hl x hx
theorem lst_drop {h : H} {f : Nat → List UInt8} (hl : Lst h f) (a : Nat) : Lst (drop h a) f := fun x hx => hl x (rest_mem hx)
theorem lst_get {h : H} {f : Nat → List UInt8} (hl : Lst h f) (a : Nat) : Lst (get h a) f := by
  unfold get
  split
  · intro x hx
    rcases List.mem_cons.1 (List.mem_of_mem_take hx) with rfl | h2
    · rename_i hi
      obtain ⟨y, hy, e, e2⟩ := bytes_mem hi
      show f a = bytesOf h a
      rw [← e2, ← e]
      exact hl y hy
    · exact hl x (rest_mem h2)
  · exact hl
theorem lst_bytes {h : H} {f : Nat → List UInt8} (hl : Lst h f) {a : Nat} (hi : isIn h a = true) : bytesOf h a = f a := by
  obtain ⟨y, hy, e, e2⟩ := bytes_mem hi
  rw [← e2, ← e]
  exact (hl y hy).symm
/-- a block with those bytes, at most k ahead of it -/
def Stay (h : H) (a : Nat) (two : List UInt8) (k : Nat) : Prop := ∃ pre post, h.L = pre ++ ⟨a, two⟩ :: post ∧ pre.length ≤ k
/-- .. the block c among those ahead is not counted -/
def StayX (h : H) (a : Nat) (two : List UInt8) (c k : Nat) : Prop := ∃ pre post, h.L = pre ++ ⟨a, two⟩ :: post ∧ (pre.filter fun x => !(x.addr == c)).length ≤ k
theorem stay_x {h : H} {a k : Nat} {two : List UInt8} (s : Stay h a two k) (c : Nat) : StayX h a two c k := by
  obtain ⟨pre, post, e, hl⟩ := s
  exact ⟨pre, post, e, Nat.le_trans (List.length_filter_le ..) hl⟩
theorem filter_once {c : Nat} : ∀ {L : List It}, (L.map (·.addr)).Nodup → L.length ≤ (L.filter fun x => !(x.addr == c)).length + 1
  | [], _ => Nat.zero_le _
  | x :: L, hn => by
    rw [List.map_cons, List.nodup_cons] at hn
    by_cases he : x.addr = c
    · rw [List.filter_cons_of_neg (by simpa using he), List.filter_eq_self.2]
      · rw [List.length_cons]; omega
      · intro y hy
        have : y.addr ≠ c := fun e => hn.1 (List.mem_map.2 ⟨y, hy, by rw [e, he]⟩)
        simpa using this
    · rw [List.filter_cons_of_pos (by simpa using he), List.length_cons, List.length_cons]
      have := filter_once (c := c) hn.2
      omega
theorem x_stay {h : H} (ok : Ok h) {a c k : Nat} {two : List UInt8} (s : StayX h a two c k) : Stay h a two (k + 1) := by
  obtain ⟨pre, post, e, hl⟩ := s
  refine ⟨pre, post, e, ?_⟩
  have hn := ok.once
  unfold keys at hn
  rw [e, List.map_append] at hn
  have := filter_once (c := c) (hn.sublist (List.sublist_append_left ..))
  omega
theorem x_offer {h : H} (ok : Ok h) {a c k : Nat} (hca : c ≠ a) {two b : List UInt8} (hk : k + 1 < h.room) (s : StayX h a two c k) : StayX (offer h c b) a two c k := by
  obtain ⟨pre, post, e, hl⟩ := s
  cases hb : offB h c
  · refine ⟨pre, post, ?_, hl⟩
    rw [offer_not hb, e]
  · obtain ⟨h1, hr⟩ := offer_front ok (b := b) hb
    have hac : ¬ a = c := fun h => hca h.symm
    have h2 : rest c h.L = (pre.filter fun x => !(x.addr == c)) ++ ⟨a, two⟩ :: (post.filter fun x => !(x.addr == c)) := by
      rw [rest_filter c h.L ok.once, e, List.filter_append, List.filter_cons_of_pos (by simpa using hac)]
    refine ⟨⟨c, b⟩ :: (pre.filter fun x => !(x.addr == c)), ((post.filter fun x => !(x.addr == c)).take (h.room - 1 - ((pre.filter fun x => !(x.addr == c)).length + 1))), ?_, ?_⟩
    · rw [h1, h2, List.cons_append, List.take_append, List.take_of_length_le (by omega)]
      congr 2
      obtain ⟨d, hd⟩ : ∃ d, h.room - 1 - (pre.filter fun x => !(x.addr == c)).length = d + 1 := ⟨h.room - 1 - (pre.filter fun x => !(x.addr == c)).length - 1, by omega⟩
      rw [hd, List.take_succ_cons]
      congr 2
      omega
    · rw [List.filter_cons_of_neg (by simp), List.filter_filter]
      simpa using hl
theorem stay_get {h : H} (ok : Ok h) {a k : Nat} {two : List UInt8} (s : Stay h a two k) : isIn h a = true ∧ bytesOf h a = two := by
  obtain ⟨pre, post, e, _⟩ := s
  have hm : (⟨a, two⟩ : It) ∈ h.L := by rw [e]; simp
  exact ⟨isIn_iff.2 (List.mem_map.2 ⟨_, hm, rfl⟩), bytes_of ok hm⟩
/-- offered twice -/
theorem twice {h : H} (ok : Ok h) (hr : 1 ≤ h.room) (hg : 1 ≤ h.g.room) {a : Nat} (ha : a < 4294967296) {one two : List UInt8} (h1 : one.length ≤ 20000) : Stay (offer (offer h a one) a two) a two 0 := by
  have ok1 := ok_offer ok ha h1
  have hb : offB (offer h a one) a = true := by
    cases hb : offB h a
    · have hb2 := hb
      unfold offB at hb2
      rw [Bool.or_eq_false_iff] at hb2
      have h3 : has h.g a = false := by
        have := hb2.2
        have h0 : decide (h.room = 0) = false := decide_eq_false (by omega)
        rw [h0] at this
        simpa using this
      have h4 : (offer h a one).g = GhoM.ask h.g a := by
        unfold offer
        show (if isIn h a = true then h.g else GhoM.ask h.g a) = _
        rw [if_neg (by rw [hb2.1]; simp)]
      have h5 : has (offer h a one).g a = true := by rw [h4]; exact near_has (near_new hg h3)
      have h0 : decide ((offer h a one).room = 0) = false := decide_eq_false (by rw [offer_room]; omega)
      unfold offB
      rw [h5, h0]
      simp
    · unfold offB
      rw [offer_in ok hb]
      rfl
  refine ⟨[], (rest a (offer h a one).L).take ((offer h a one).room - 1), ?_, Nat.le_refl _⟩
  rw [(offer_front ok1 hb).1]
  rfl
end Go.HotM

end
section
namespace Go.Own
open Go.RowKit
/-- a type of c cells, its zero value -/
structure Boxy (P : Program) (ty : TypeId) (c : Nat) : Prop where
  zero : ∃ z : Array Value, (P.info? ty).bind (·.zero) = some (.agg z) ∧ z.size = c
  size : (P.info? ty).map (·.size) = some c
theorem boxy_of {P : Program} {ty : TypeId} {c : Nat} (z : Array Value) (h : (P.info? ty).bind (·.zero) = some (.agg z)) (hz : z.size = c) (hs : (P.info? ty).map (·.size) = some c) : Boxy P ty c := ⟨⟨z, h, hz⟩, hs⟩
section
variable {P : Program} {B : Nat} {w0 : World} {Ps : List Asn}
/-- x := value -/
theorem wpList_box2 {ops : Array Oper} {rest : List Oper} {o1 o2 : Oper} {a : Act} {w : World} {Q : Exit → Act → World → Prop} {ty : TypeId} {c : Nat} (O : Boxy P ty c) (hg1 : o1.guard = none) (hg2 : o2.guard = none) (ho1 : o1.op = .alloc ty) (x y : Operand) (ho2 : o2.op = .store ty x y) (hd2 : o2.dst = none)
    (cs : List Value) (hx : ∀ v, (a.put o1.dst v).eval x = v) (hy : ∀ v, (a.put o1.dst v).eval y = .agg cs.toArray) (hc : cs.length = c) (h1 : ∀ u ∈ cs, u.oneCell' = true) (H : St B w0 w Ps)
    (h : ∀ b w', St B w0 w' (AVals b ty cs :: Ps) → wpList P ops Q rest (a.put o1.dst (.pointer (some ⟨b, 0, none⟩))) w') : wpList P ops Q (o1 :: o2 :: rest) a w := by
  obtain ⟨z, hz, hzl⟩ := O.zero
  refine wpList_allocZ hg1 ty ho1 z hz ?_
  have hb := H.boxV ty z.toList
  have hzz : z.toList.toArray = z := by simp
  rw [hzz] at hb
  have ht : (w.alloc (.cells z ty)).there w.heap.size 0 cs.toArray.size := hb.thereV 0 rfl (by rw [List.size_toArray, hc, Array.length_toList, hzl]; exact Nat.le_refl _)
  refine wpList_store_mid hg2 ty x y ho2 w.heap.size 0 cs.toArray (hx _) (hy _) ht (by rw [List.size_toArray, hc]; exact O.size) (all_oneCell_toArray h1) ?_
  have hs := St.setAll 0 cs 0 _ _ z.toList hb rfl (by rw [Nat.zero_add, hc, Array.length_toList, hzl])
  simp only [List.set_cons_zero, List.take_zero, List.nil_append] at hs
  rw [hd2, List.toList_toArray]
  exact h _ _ hs
/-- var x: its zero value -/
theorem wpList_newZ {ops : Array Oper} {rest : List Oper} {o : Oper} {a : Act} {w : World} {Q : Exit → Act → World → Prop} {ty : TypeId} (z : List Value) (hz : (P.info? ty).bind (·.zero) = some (.agg z.toArray)) (hg : o.guard = none) (ho : o.op = .alloc ty) (H : St B w0 w Ps)
    (h : ∀ b w', St B w0 w' (AVals b ty z :: Ps) → wpList P ops Q rest (a.put o.dst (.pointer (some ⟨b, 0, none⟩))) w') : wpList P ops Q (o :: rest) a w :=
  wpList_allocZ hg ty ho z.toArray hz (h _ _ (H.boxV ty z))
/-- x = value -/
theorem wpList_fill {ops : Array Oper} {rest : List Oper} {o : Oper} {a : Act} {w : World} {Q : Exit → Act → World → Prop} {ty : TypeId} {c b : Nat} (O : Boxy P ty c) (hg : o.guard = none) (x y : Operand) (ho : o.op = .store ty x y) (hd : o.dst = none) (H : St B w0 w Ps) (i : Nat) {vs : List Value} (hi : Ps[i]? = some (AVals b ty vs)) (hv : vs.length = c)
    (cs : List Value) (hx : a.eval x = .pointer (some ⟨b, 0, none⟩)) (hy : a.eval y = .agg cs.toArray) (hc : cs.length = c) (h1 : ∀ u ∈ cs, u.oneCell' = true)
    (h : ∀ w', St B w0 w' (Ps.set i (AVals b ty cs)) → wpList P ops Q rest a w') : wpList P ops Q (o :: rest) a w := by
  have ht : w.there b 0 cs.toArray.size := H.thereV i hi (by rw [List.size_toArray, hc, hv]; exact Nat.le_refl _)
  refine wpList_store_mid hg ty x y ho b 0 cs.toArray hx hy ht (by rw [List.size_toArray, hc]; exact O.size) (all_oneCell_toArray h1) ?_
  have hs := St.setAll i cs 0 w Ps vs H hi (by rw [Nat.zero_add, hc, hv])
  simp only [List.take_zero, List.nil_append] at hs
  rw [hd, List.toList_toArray]
  exact h _ hs
/-- such a variable is loaded -/
theorem St.boxRange {w : World} {b : Nat} {ty : TypeId} {cs : List Value} (H : St B w0 w Ps) (i : Nat) (hi : Ps[i]? = some (AVals b ty cs)) : w.rangeAt b 0 cs := fun j v hv => by rw [Nat.zero_add]; exact (H.cellV i hi j hv).1
end
end Go.Own

end
section
namespace Go.RecM
abbrev Bs := List UInt8
/-- the many lowest bytes of n, the least significant one first (as Cod.le) -/
def le (n : Nat) : Nat → Bs
  | 0 => []
  | k + 1 => le n k ++ [UInt8.ofNat (n / 2 ^ (8 * k))]
def num : Bs → Nat
  | [] => 0
  | c :: r => c.toNat + 256 * num r
structure Nte where
  kind : UInt8
  addr : Nat
  seq : Nat
  sum : Bs
  kn : Nat
  data : Bs
def zsum : Bs := List.replicate 32 0
def zeroN : Nte := ⟨0, 0, 0, zsum, 0, []⟩
/-- the fields are of their widths -/
structure Fits (n : Nte) : Prop where
  addr : n.addr < 4294967296
  seq : n.seq < 18446744073709551616
  sum : n.sum.length = 32
  kn : n.kn < 4294967296
def right (n : Nte) : Bool :=
  decide (n.data.length ≤ 300) &&
    (if n.kind = 1 then true
     else if n.kind = 2 then decide (n.sum = zsum) && decide (n.kn = 0) && decide (n.data.length = 0)
     else if n.kind = 3 then decide (n.addr = 0) && (decide (n.sum = zsum) && decide (n.kn = 0)) && decide (n.data.length = 0)
     else if n.kind = 4 then decide (n.addr = 0) && decide (n.seq = 0) && decide (0 < n.data.length)
     else false)
def tail (n : Nte) : Bs := n.sum ++ (le n.kn 4 ++ (le n.data.length 2 ++ n.data))
def laid (n : Nte) : Bs :=
  n.kind :: (if n.kind = 1 then le n.addr 4 ++ (le n.seq 8 ++ tail n)
    else if n.kind = 2 then le n.addr 4 ++ le n.seq 8
    else if n.kind = 3 then le n.seq 8
    else tail n)
def lay (n : Nte) : Bs × Nat := if right n then (laid n, 0) else ([], 1)
/-- bytes that are a note's -/
def IsNote (b : Bs) : Prop := ∃ n, Fits n ∧ right n = true ∧ laid n = b
open Classical in
noncomputable def take (b : Bs) : Nte × Nat := if h : IsNote b then (h.choose, 0) else (zeroN, 100)
end Go.RecM

end
section
namespace Go.Proofs.Ytameigmoabimiaa
open Go.RowKit Go.Own
namespace Byt
abbrev strV (b : List UInt8) : Value := .string (strB b)
theorem neq_str {o : Oper} {x y : Tmp} (ho : o.op = .binOp .neq 9 (.tmp x) (.tmp y) 9) (a b : List UInt8) (v : Bool) (hv : decide (a = b) = !v) (ρ : Operand → Value) (w : World) (h0 : ρ (.tmp x) = strV a) (h1 : ρ (.tmp y) = strV b) :
    (execOp ρ o).run Try.prog w = .ok (.value (.bool v)) w := by
  simp only [execOp, ho, h0, h1]
  cases v <;> simp at hv <;> simp [go_sem, strB_toList, hv]
end Byt
end Go.Proofs.Ytameigmoabimiaa

end
section
namespace Go.Proofs.Ytameigmoabimiaa
open Go.RowKit Go.Own
namespace Rec
open Go.RecM Byt
theorem nat_u32 {a : Int} (h : (Lit.int .u32 a).wf = true) : ∃ u : Nat, a = u ∧ u < 4294967296 := by
  have : 0 ≤ a ∧ a < 4294967296 := by
    have : 0 ≤ a ∧ a ≤ 4294967295 := by simpa [Lit.wf, IntKind.min, IntKind.max, IntKind.signed, IntKind.bits] using h
    omega
  exact ⟨a.toNat, by omega, by omega⟩
end Rec
end Go.Proofs.Ytameigmoabimiaa

end
section
namespace Go.Proofs.Ytameigmoabimiaa
open Go.RowKit Go.Own
namespace Hot
open Go.GhoM Go.HotM Byt Gho
open Rec (nat_u32)
structure ActD where
  kind : Nat
  addr : Nat
  b : List UInt8
def actC (x : ActD) (v : Value) : List Value := [.int .u8 (x.kind : Int), aV x.addr, v]
def inAct : InT ActD := fun x B w cs => ∃ ad cd, cs = actC x (.slice ad x.b.length cd) ∧ inBytes x.b B w [.slice ad x.b.length cd] ∧ x.kind < 256 ∧ x.addr < 4294967296
theorem u8_natH {a : Int} (h : (Lit.int .u8 a).wf = true) : ∃ u : Nat, a = u ∧ u < 256 := by
  have h2 : 0 ≤ a ∧ a ≤ 255 := by simpa [Lit.wf, IntKind.min, IntKind.max, IntKind.signed, IntKind.bits] using h
  exact ⟨a.toNat, by omega, by omega⟩
set_option maxRecDepth 10000 in
theorem opens_act : Opens Try.prog 34 inAct := by
  intro H enc w fuel cs x h
  obtain ⟨hl, hf⟩ := opens_fields (P := Try.prog) Try.underlying34 h
  rw [show Try.prog.cellsOf 34 = 3 by kernel_rfl] at hl
  match cs, hl with
  | [c0, c1, c2], _ =>
    obtain ⟨n0, y0, h0⟩ := hf 0 _ rfl
    obtain ⟨n1, y1, h1⟩ := hf 1 _ rfl
    obtain ⟨n2, y2, h2⟩ := hf 2 _ rfl
    obtain ⟨a0, e0, w0⟩ := opens_int (P := Try.prog) Try.underlying5 H enc w n0 _ y0 h0
    obtain ⟨a1, e1, w1⟩ := opens_int (P := Try.prog) Try.underlying31 H enc w n1 _ y1 h1
    obtain ⟨l, hb⟩ := opens_bytes (P := Try.prog) Try.underlying32 Try.underlying5 (by kernel_rfl) H enc w n2 _ y2 h2
    have k0 : Try.prog.cellsOf 5 = 1 := by kernel_rfl
    have k1 : Try.prog.cellsOf 31 = 1 := by kernel_rfl
    have k3 : Try.prog.cellsOf 32 = 1 := by kernel_rfl
    have hb' : inBytes l w.heap.size w [c2] := by simpa [k3] using hb
    have e0' : c0 = .int .u8 a0 := by simpa [k0] using e0
    have e1' : c1 = .int .u32 a1 := by simpa [k1] using e1
    subst e0' e1'
    have hb2 := hb'
    obtain ⟨ab, cb, q1, q2, q3, q4, q5⟩ := hb'
    obtain ⟨u0, rfl, hu0⟩ := u8_natH w0
    obtain ⟨u1, rfl, hu1⟩ := nat_u32 w1
    simp only [List.cons.injEq, and_true] at q1
    subst q1
    exact ⟨⟨u0, u1, l⟩, ab, cb, rfl, hb2, hu0, hu1⟩
/-- an act that came in, in a later world -/
structure ActAt (w : World) (b k : Nat) (x : ActD) (ad : Option Addr) (cd : Nat) : Prop where
  range : w.rangeAt b k (actC x (.slice ad x.b.length cd))
  given : Given w ad x.b.length cd x.b
  kind : x.kind < 256
  addr : x.addr < 4294967296
theorem acts_in {l : List ActD} {w : World} {ao : Option Addr} {n cap : Nat} (h : inSlice 3 inAct l w.heap.size w [.slice ao n cap]) :
    n = l.length ∧ n ≤ cap ∧ cap ≤ maxLen ∧ (ao = none → cap = 0) ∧ (l ≠ [] → ∃ b o, ao = some ⟨b, o, none⟩ ∧ ∀ k (hk : k < l.length), ∃ ad cd, ∀ w' : World, Below w.heap.size w w' → ActAt w' b (o + k * 3) l[k] ad cd) := by
  obtain ⟨ao', cap', h1, h2, h3, h4, h5⟩ := h
  simp only [List.cons.injEq, Value.slice.injEq, and_true] at h1
  obtain ⟨rfl, rfl, rfl⟩ := h1
  refine ⟨rfl, h2, h3, h4, fun hne => ?_⟩
  rcases h5 with rfl | ⟨b, o, e, hb, hs, hcc⟩
  · exact absurd rfl hne
  · refine ⟨b, o, e, fun k hk => ?_⟩
    obtain ⟨cs', g1, g2, ad, cd, rfl, g3, g4, g5⟩ := hcc k hk
    refine ⟨ad, cd, fun w' hw' => ⟨fun j v hv => ?_, (in_given g3).later hw', g4, g5⟩⟩
    have hj : j < 3 := (List.getElem?_eq_some_iff.1 hv).1
    have := (World.cell?_of_block (w := w) (hw'.block b hb)).trans (g2 j hj)
    rw [Nat.add_assoc, this, hv]
theorem boxy_act : Boxy Try.prog 34 3 := boxy_of #[.int .u8 0, .int .u32 0, .slice none 0 0] (by kernel_rfl) rfl (by kernel_rfl)
theorem size_act : (Try.prog.info? 34).map (·.size) = some 3 := by kernel_rfl
theorem actC_one (x : ActD) (ad : Option Addr) (n cd : Nat) : ∀ u ∈ actC x (.slice ad n cd), u.oneCell' = true := by
  intro u hu
  simp only [actC, List.mem_cons, List.not_mem_nil, or_false] at hu
  rcases hu with rfl | rfl | rfl <;> rfl
theorem idx_act {o : Oper} {x y : Tmp} (ho : o.op = .indexAddr 22 (.tmp x) (.tmp y)) {b g n c k : Nat} (hk : k < n) (ρ : Operand → Value) (w : World) (h0 : ρ (.tmp x) = .slice (some ⟨b, g, none⟩) n c) (h1 : ρ (.tmp y) = .int .i64 (k : Int)) : (execOp ρ o).run Try.prog w = .ok (.value (.pointer (some ⟨b, g + k * 3, none⟩))) w := by
  obtain ⟨i, hi, hs⟩ := Option.map_eq_some_iff.1 size_act
  have h2 : (k : Int) < (n : Int) := by omega
  have hu := Try.underlying22
  simp [execOp, ho, h0, h1, go_sem, h2, hu]
theorem load_act (cs : List Value) (hl : cs.length = 3) {o : Oper} {x : Tmp} (ho : o.op = .load 34 (.tmp x)) {b k : Nat} (ρ : Operand → Value) {w : World} (hr : w.rangeAt b k cs) (h0 : ρ (.tmp x) = .pointer (some ⟨b, k, none⟩)) : (execOp ρ o).run Try.prog w = .ok (.value (.agg cs.toArray)) w := by
  have := run_loadAt_mid (P := Try.prog) w b k 34 cs _ hr Try.underlying34 rfl (by rw [hl]; exact size_act)
  unfold execOp
  simp only [ho, h0, Sem.run_bind, this, Result.andThen_ok, Sem.run_pure]
theorem fld2 {o : Oper} {X : Operand} (ho : o.op = .fieldAddr 34 X 2) {b k : Nat} (ρ : Operand → Value) (w : World) (h0 : ρ X = .pointer (some ⟨b, k, none⟩)) : (execOp ρ o).run Try.prog w = .ok (.value (.pointer (some ⟨b, k + 2, none⟩))) w := by
  simp [execOp, ho, h0, go_sem, add_of]
theorem rem_u8 {o : Oper} {x : Tmp} (d : Nat) (hd : d < 256) (ho : o.op = .binOp .rem 5 (.tmp x) (.const (.int .u8 (d : Int))) 5) {a f : Nat} (h0d : 0 < d) (hf : f = a % d) (ρ : Operand → Value) (w : World) (h0 : ρ (.tmp x) = .int .u8 (a : Int)) (h1 : ρ (.const (.int .u8 (d : Int))) = .int .u8 (d : Int)) : (execOp ρ o).run Try.prog w = .ok (.value (.int .u8 (f : Int))) w := by
  have e : (a : Int).tmod (d : Int) = (f : Int) := by rw [hf]; rfl
  have hf2 : f < d := by rw [hf]; exact Nat.mod_lt _ h0d
  have e2 : IntKind.u8.wrap (f : Int) = (f : Int) := by rw [IntWalk.u8_in _ (by omega)]
  have e3 : ¬ (d : Int) = 0 := by omega
  have e4 : d ≠ 0 := by omega
  simp [execOp, ho, h0, h1, go_sem, e, e4]
theorem get_len {h : H} (ok : HotM.Ok h) (a : Nat) : (keys (HotM.get h a)).length = (keys h).length := by
  cases hi : isIn h a
  · rw [get_not hi]
  · rw [get_keys ok hi, List.length_cons, List.length_erase_of_mem (isIn_iff.1 hi)]
    have := List.length_pos_of_mem (isIn_iff.1 hi)
    omega
theorem given_none {w : World} : Given w none 0 0 [] := given_own (ab_nil (Own.St.start w)) 0 rfl
theorem given_lit {w : World} (l : List UInt8) (cs : Array Value) (hc : (l.map byteV).toArray = cs) (n : Nat) (hn : l.length = n) (h : n ≤ 1000) (fz : Nat × Nat) : Given (w.alloc (.cells cs 5 fz)) (some ⟨w.heap.size, 0, none⟩) n n l := by
  rw [← hc]
  exact given_new w l n hn h _ _
set_option maxHeartbeats 3200000 in
theorem few_any {l : List ActD} {w : World} {ao : Option Addr} {n cap : Nat} (h : inSlice 3 inAct l w.heap.size w [.slice ao n cap]) (wx : World) (hwx : Below w.heap.size w wx) :
    Calls Try.prog 11 #[.slice ao n cap] wx fun e w' => ∃ k, e = .returned (.slice ao k cap) ∧ wx = w' ∧ k ≤ n ∧ k ≤ 200 ∧ ∀ i (hi : i < l.length), i < k → l[i].b.length ≤ 20000 := by
  obtain ⟨hlen, hcap, hmax, hnil, hat⟩ := acts_in h
  have HLEN := Lib.hid hlen
  have HAT := Lib.hid hat
  have HB := Lib.hid hwx
  have hc63 : cap ≤ 9223372036854775807 := by unfold maxLen at hmax; omega
  have hn63 : n ≤ 9223372036854775807 := by omega
  clear h hlen hat hmax hwx
  go_enter Try.func11, Try.ntmps11
  go_wp2
  go_loopw [3, 7] (fun v3 v7 wr => ∃ (left i : Nat), i ≤ n ∧ i ≤ 200 ∧ left ≤ 20000 ∧ v3 = .int .i64 (left : Int) ∧ v7 = .int .i64 (i : Int) ∧ wr = wx ∧ ∀ j (hj : j < l.length), j < i → l[j].b.length ≤ 20000) (fun _ v7 _ => n - (intOf v7).toNat)
  case atStart => exact ⟨20000, 0, Nat.zero_le _, by decide, Nat.le_refl _, rfl, rfl, rfl, fun j _ hj => absurd hj (Nat.not_lt_zero _)⟩
  case round =>
    obtain ⟨left, i, hin, hi200, hleft, rfl, rfl, hw, hall⟩ := hrel
    subst hw
    have HALL := Lib.hid hall
    clear hall
    by_cases hi : (i : Int) < (n : Int)
    · have hin2 : i < n := by omega
      have hil : i < l.length := by rw [← HLEN.out]; exact hin2
      obtain ⟨b, o, hbo, hra⟩ := HAT.out (by intro e; rw [e] at hil; exact absurd hil (Nat.not_lt_zero _))
      subst hbo
      obtain ⟨ad, cd, hact⟩ := hra i hil
      replace hact := hact wr HB.out
      obtain ⟨m, hm⟩ : ∃ m, m = l[i].b.length := ⟨_, rfl⟩
      have d2 := hact.range 2 (.slice ad m cd) (by rw [hm]; rfl)
      have HM := Lib.hid hm
      clear hra hact hm
      by_cases h2 : (i : Int) ≥ 200
      · go_wp2_with (fail)
        go_ret
        exact ⟨i, rfl, rfl, by omega, by omega, fun j hj hji => HALL.out j hj hji⟩
      · by_cases h3 : (m : Int) > (left : Int)
        · have h3' : left < m := by omega
          go_wp2_with (first
            | (refine wpList_val rfl (idx_act rfl hin2 _ _ rfl rfl) ?_)
            | (refine wpList_val rfl (fld2 rfl _ _ rfl) ?_))
          go_ret
          exact ⟨i, rfl, rfl, by omega, by omega, fun j hj hji => HALL.out j hj hji⟩
        · have h3' : ¬ left < m := by omega
          go_wp2_with (first
            | (refine wpList_val rfl (idx_act rfl hin2 _ _ rfl rfl) ?_)
            | (refine wpList_val rfl (fld2 rfl _ _ rfl) ?_))
          go_roundw
          case rel =>
            refine ⟨left - m, i + 1, by omega, by omega, by omega, by go_num, by go_num, trivial, fun j hj hji => ?_⟩
            rcases Nat.lt_or_ge j i with hlt | hge
            · exact HALL.out j hj hlt
            · obtain rfl : j = i := by omega
              rw [← HM.out]
              omega
          case measure => simp [intOf]; omega
    · go_wp2_with (fail)
      go_ret
      refine ⟨n, rfl, rfl, Nat.le_refl _, by omega, fun j hj hjn => HALL.out j hj (by omega)⟩
section
variable {W w0 w : World} {B : Nat} {Ps : List Asn} {p : Nat} {h h' : H}
theorem offer_lit (K : Kept W) (hW : Below W.heap.size W w0) (hB : W.heap.size ≤ B) (H : Own.St B w0 w (K.A p h :: Ps)) (ok : HotM.Ok h) (a : Nat) (ha : a < 4294967296) (ao : Option Addr) (n cap : Nat) (b : List UInt8) (hg : Given w ao n cap b) (hn : n ≤ 20000) {r : Bool} (hr : offB h a = r) (hh : HotM.offer h a b = h') :
    Calls Try.prog 12 #[ptr p, .int .u32 (a : Int), .slice ao n cap] w fun e w' => e = .returned (.bool r) ∧ Own.St B w0 w' (K.A p h' :: Ps) := by
  subst hr hh
  exact K.offer a ao n cap b (hW.trans (H.below.mono hB)) H ok ha hg hn
theorem get_lit (K : Kept W) (hW : Below W.heap.size W w0) (hB : W.heap.size ≤ B) (H : Own.St B w0 w (K.A p h :: Ps)) (ok : HotM.Ok h) (a : Nat) (ha : a < 4294967296) {r : Bool} (hr : isIn h a = r) {bs : List UInt8} (hb : bytesOf h a = bs) {n : Nat} (hn : bs.length = n) (hh : HotM.get h a = h') :
    Calls Try.prog 14 #[ptr p, .int .u32 (a : Int)] w fun e w' => ∃ ao c, e = .returned (.tuple #[.slice ao n c, .bool r]) ∧ Own.St B w0 w' (AB ao n c bs :: K.A p h' :: Ps) := by
  subst hr hh hb hn
  exact K.get a (hW.trans (H.below.mono hB)) H ok ha
end
def s1 : H := HotM.offer (newH 1 5) 3 [120]
def s2 : H := HotM.offer s1 3 [120]
def s3 : H := HotM.get s2 3
def s4 : H := HotM.offer s3 4 []
def s5 : H := HotM.offer s4 4 []
def s6 : H := HotM.get s5 3
theorem ks0 : HotM.Ok (newH 1 5) := HotM.ok_new (by decide) (by decide)
theorem ks1 : HotM.Ok s1 := HotM.ok_offer ks0 (by decide) (by decide)
theorem ks2 : HotM.Ok s2 := HotM.ok_offer ks1 (by decide) (by decide)
theorem ks3 : HotM.Ok s3 := ok_get ks2 (by decide)
theorem ks4 : HotM.Ok s4 := HotM.ok_offer ks3 (by decide) (by decide)
theorem ks5 : HotM.Ok s5 := HotM.ok_offer ks4 (by decide) (by decide)
set_option maxRecDepth 6000 in
set_option maxHeartbeats 6400000 in
theorem shown_any {W w : World} (K : Kept W) (hW : Below W.heap.size W w) : Calls Try.prog 8 #[] w (RetYes w) := by
  have C0 := Lib.hid (K.new (w := w) (B := w.heap.size) (w0 := w) (Ps := []) 1 5 hW (Own.St.start w) (by decide) (by decide))
  simp only [show mayBe 1 = true from rfl, show mayBe 5 = true from rfl, and_self, if_true] at C0
  have HW := Lib.hid hW
  have HB0 := Lib.hid hW.size
  clear hW
  have kc := fun (w : World) (C : Array Value) (n c : Nat) => Lib.run_convert_bytes_const (P := Try.prog) w 32 5 C n c Try.underlying32 Try.underlying5
  go_enter Try.func8, Try.ntmps8
  go_wp2_with (fail)
  refine C0.out.mono ?_
  clear C0
  rintro e wa ⟨p, rfl, h⟩
  have H0 := Lib.hid (h.alloc (.cells #[.int .u8 120] 5 (1, 2)))
  have G0 := Lib.hid (given_lit (w := wa) [120] #[.int .u8 120] (by kernel_rfl) 1 rfl (by decide) (1, 2))
  clear h
  go_wp2_with (fail)
  refine (offer_lit K HW.out HB0.out H0.out ks0 3 (by decide) _ 1 1 [120] G0.out (by decide) (r := false) (h' := s1) (by kernel_rfl) rfl).mono ?_
  rintro e w1 ⟨rfl, h⟩
  have H1 := Lib.hid (h.alloc (.cells #[.int .u8 120] 5 (1, 2)))
  have G1 := Lib.hid (given_lit (w := w1) [120] #[.int .u8 120] (by kernel_rfl) 1 rfl (by decide) (1, 2))
  clear h H0 G0
  go_wp2_with (fail)
  refine (offer_lit K HW.out HB0.out H1.out ks1 3 (by decide) _ 1 1 [120] G1.out (by decide) (r := true) (h' := s2) (by kernel_rfl) rfl).mono ?_
  rintro e w2 ⟨rfl, h⟩
  have H2 := Lib.hid h
  clear h H1 G1
  go_wp2_with (fail)
  refine (get_lit K HW.out HB0.out H2.out ks2 3 (by decide) (r := true) (bs := [120]) (n := 1) (h' := s3) (by kernel_rfl) (by kernel_rfl) rfl rfl).mono ?_
  rintro e w3 ⟨ao, c, rfl, h⟩
  have H3 := Lib.hid h.swap2
  clear h H2
  go_wp2_with (fail)
  refine (offer_lit K HW.out HB0.out H3.out ks3 4 (by decide) none 0 0 [] given_none (by decide) (r := false) (h' := s4) (by kernel_rfl) rfl).mono ?_
  rintro e w4 ⟨rfl, h⟩
  have H4 := Lib.hid h
  clear h H3
  go_wp2_with (fail)
  refine (offer_lit K HW.out HB0.out H4.out ks4 4 (by decide) none 0 0 [] given_none (by decide) (r := true) (h' := s5) (by kernel_rfl) rfl).mono ?_
  rintro e w5 ⟨rfl, h⟩
  have H5 := Lib.hid h
  clear h H4
  go_wp2_with (fail)
  refine (get_lit K HW.out HB0.out H5.out ks5 3 (by decide) (r := false) (bs := []) (n := 0) (h' := s6) (by kernel_rfl) (by kernel_rfl) rfl rfl).mono ?_
  rintro e w6 ⟨ao6, c6, rfl, h⟩
  have H6 := Lib.hid h
  have st := given_str (given_own h 2 rfl)
  have hcs : (strB [120]).toList = [120] := strB_toList _
  clear h H5 kc
  go_wp2_with (fail)
  go_ret
  exact ⟨rfl, H6.out.below⟩
set_option maxHeartbeats 3200000 in
theorem walk_nil (a : Nat) (ha : a < 4294967296) (ao : Option Addr) (n cap : Nat) (x : List UInt8) {w : World} (hx : inBytes x w.heap.size w [.slice ao n cap]) (K : Kept w) : Calls Try.prog 6 #[.int .u32 (a : Int), .slice ao n cap] w (RetYes w) := by
  have SH := Lib.hid (shown_any K (Below.refl _ _))
  have HA := Lib.hid ha
  have GX := Lib.hid (in_given hx)
  clear ha hx
  go_enter Try.func6, Try.ntmps6
  go_wp2_with (fail)
  refine SH.out.mono ?_
  rintro e w1 ⟨rfl, h⟩
  have U1 := Lib.hid h
  clear h SH
  go_wp2_with (fail)
  refine (K.nilGet a U1.out HA.out).mono ?_
  rintro e w2 ⟨a2, c2, rfl, h⟩
  have U2 := Lib.hid (U1.out.trans (h.mono U1.out.size))
  clear h
  go_wp2_with (fail)
  refine (K.nilOffer a ao n cap x U2.out HA.out (GX.out.later U2.out)).mono ?_
  rintro e w3 ⟨rfl, h⟩
  have U3 := Lib.hid (U2.out.trans (h.mono U2.out.size))
  clear h
  go_wp2_with (fail)
  refine (K.nilDrop a U3.out HA.out).mono ?_
  rintro e w4 ⟨rfl, h⟩
  have U4 := Lib.hid (U3.out.trans (h.mono U3.out.size))
  clear h
  go_wp2_with (fail)
  refine (K.nilAll U4.out).mono ?_
  rintro e w5 ⟨a5, c5, rfl, h⟩
  have U5 := Lib.hid (U4.out.trans (h.mono U4.out.size))
  clear h
  go_wp2_with (fail)
  go_ret
  exact ⟨rfl, U5.out⟩
end Hot
end Go.Proofs.Ytameigmoabimiaa

end
section
namespace Go.Proofs.Ytameigmoabimiaa
open Go.RowKit Go.Own
namespace Hot
open Go.GhoM Go.HotM Byt Gho
set_option maxRecDepth 6000 in
set_option maxHeartbeats 6400000 in
theorem walk_first (r0 : Nat) (hr0 : r0 < 256) (q0 : Nat) (hq0 : q0 < 256) (a1 : Option Addr) (len1 cap1 : Nat) (l : List ActD) (ad0 : Nat) (had : ad0 < 4294967296) {w : World} (w1 : inSlice 3 inAct l w.heap.size w [.slice a1 len1 cap1]) (K : Kept w) :
    Calls Try.prog 7 #[.int .u8 (r0 : Int), .int .u8 (q0 : Int), .slice a1 len1 cap1, .int .u32 (ad0 : Int)] w (RetYes w) := by
  obtain ⟨hlen, hcap, hmax, hnil, hat⟩ := acts_in w1
  have SH := Lib.hid (shown_any K (Below.refl _ _))
  have HF := Lib.hid (fun wx hwx => few_any w1 wx hwx)
  have HAT := Lib.hid hat
  have HLEN := Lib.hid hlen
  have hcap63 : cap1 ≤ 9223372036854775807 := by unfold maxLen at hmax; omega
  have HAD := Lib.hid had
  obtain ⟨n, hr⟩ : ∃ r, r = r0 % 21 := ⟨_, rfl⟩
  obtain ⟨q, hq⟩ : ∃ r, r = q0 % 101 := ⟨_, rfl⟩
  have hn21 : n ≤ 20 := by omega
  have hq101 : q ≤ 100 := by omega
  have HRR := Lib.hid hr
  have HQQ := Lib.hid hq
  have N1 := fun (wx : World) (hwx : Below w.heap.size w wx) => K.new (w := wx) (B := w.heap.size) (w0 := w) (Ps := []) (n : Int) (q : Int) hwx ((Own.St.start w).later hwx) (by omega) (by omega)
  have hmb : mayBe (n : Int) = true := by unfold mayBe; simp; omega
  have hmb2 : mayBe (q : Int) = true := by unfold mayBe; simp; omega
  simp only [hmb, hmb2, and_self, if_true, Int.toNat_natCast] at N1
  have N1 := Lib.hid N1
  clear hr hq hmb hmb2
  clear hat hlen w1 hmax had hnil
  go_enter Try.func7, Try.ntmps7
  go_wp2_with (fail)
  refine SH.out.mono ?_
  rintro e wa ⟨rfl, h1⟩
  have U1 := Lib.hid h1
  clear h1 SH
  go_wp2_with (first
    | (refine wpList_val rfl (rem_u8 21 (by decide) rfl (by decide) HRR.out _ _ rfl rfl) ?_)
    | (refine wpList_val rfl (rem_u8 101 (by decide) rfl (by decide) HQQ.out _ _ rfl rfl) ?_))
  refine (N1.out _ U1.out).mono ?_
  clear N1
  rintro e wb ⟨p, rfl, h3⟩
  have H3 := Lib.hid h3
  clear h3 U1
  go_wp2_with (fail)
  refine (HF.out wb H3.out.below).mono ?_
  rintro e wc ⟨k, rfl, rfl, hk1, hk2, hsm⟩
  have HSM := Lib.hid hsm
  clear hsm
  go_wp2
  go_loopw [40] (fun v36 wr => ∃ (i : Nat) (h : H), i ≤ k ∧ v36 = .int .i64 (i : Int) ∧ Own.St w.heap.size w wr [K.A p h] ∧ HotM.Ok h ∧ h.room = n ∧ h.g.room = q) (fun v36 _ => k - (intOf v36).toNat)
  case atStart => exact ⟨0, newH n q, Nat.zero_le _, rfl, H3.out, HotM.ok_new (by omega) (by omega), rfl, rfl⟩
  case round =>
    obtain ⟨i, h, hik, rfl, hst, hok, hroom, hkn⟩ := hrel
    have HS := Lib.hid hst
    have OK := Lib.hid hok
    have RM := Lib.hid hroom
    have RK := Lib.hid hkn
    clear hst hok hroom hkn H3
    by_cases hi : (i : Int) < (k : Int)
    · have hik2 : i < k := by omega
      have hil : i < l.length := by rw [← HLEN.out]; omega
      obtain ⟨b, o, hbo, hra⟩ := HAT.out (by intro e; rw [e] at hil; exact absurd hil (Nat.not_lt_zero _))
      subst hbo
      obtain ⟨ad, cd, hact⟩ := hra i hil
      have hb2 := HSM.out i hil hik2
      obtain ⟨kd, hkd⟩ : ∃ x, x = l[i].kind := ⟨_, rfl⟩
      obtain ⟨x, hx⟩ : ∃ x, x = l[i].addr := ⟨_, rfl⟩
      obtain ⟨bs, hbs⟩ : ∃ x, x = l[i].b := ⟨_, rfl⟩
      obtain ⟨m, hm⟩ : ∃ x, x = l[i].b.length := ⟨_, rfl⟩
      obtain ⟨cs, hcs⟩ : ∃ x, x = actC l[i] (.slice ad l[i].b.length cd) := ⟨_, rfl⟩
      have RA : Hid (wr.rangeAt b (o + i * 3) cs) := by rw [hcs]; exact (hact wr HS.out.below).range
      have CSL : Hid (cs.length = 3) := by show _ = _; rw [hcs]; rfl
      have CS1 : Hid (∀ u ∈ cs, u.oneCell' = true) := by rw [hcs]; exact actC_one _ _ _ _
      have K0 : Hid (cs[0]? = some (.int .u8 (kd : Int))) := by show _ = _; rw [hcs, hkd]; rfl
      have K1 : Hid (cs[1]? = some (aV x)) := by show _ = _; rw [hcs, hx]; rfl
      have K2 : Hid (cs[2]? = some (.slice ad m cd)) := by show _ = _; rw [hcs, hm]; rfl
      have HX : Hid (x < 4294967296) := by rw [hx]; exact (hact wr HS.out.below).addr
      have BL : Hid (bs.length ≤ 20000) := by rw [hbs]; exact hb2
      have ML : Hid (m ≤ 20000) := by rw [hm]; exact hb2
      have GV : Hid (∀ wx, Below w.heap.size w wx → Given wx ad m cd bs) := by rw [hm, hbs]; exact fun wx hwx => (hact wx hwx).given
      obtain ⟨f, hf⟩ : ∃ f, f = kd % 3 := ⟨_, rfl⟩
      have hf3 : f = 0 ∨ f = 1 ∨ f = 2 := by omega
      have HF3 := Lib.hid hf
      clear hra hact hb2 hkd hx hbs hm hcs hf
      rcases hf3 with rfl | rfl | rfl
      · go_wp2_with (first
          | (refine wpList_val rfl (idx_act rfl (show i < k from hik2) _ _ rfl rfl) ?_)
          | (refine wpList_val rfl (load_act cs CSL.out rfl _ (b := b) (k := o + i * 3) RA.out rfl) ?_)
          | (refine wpList_box2 boxy_act rfl rfl rfl (.tmp 13) (.tmp 43) rfl rfl cs (fun _ => rfl) (fun _ => rfl) CSL.out CS1.out HS.out ?_; intro b14 w6 h6; have HX6 := Lib.hid h6; have d0 := (h6.cellV 0 rfl 0 K0.out).1; have d1 := (h6.cellV 0 rfl 1 K1.out).1; have d2 := (h6.cellV 0 rfl 2 K2.out).1; clear h6)
          | (refine wpList_val rfl (rem_u8 3 (by decide) rfl (by decide) HF3.out _ _ rfl rfl) ?_))
        refine (K.offer x ad m cd bs HX6.out.below HX6.out.swap2 OK.out HX.out (GV.out _ HX6.out.below) ML.out).mono ?_
        rintro e w7 ⟨rfl, h7⟩
        have H7 := Lib.hid (h7.swap2.drop 1)
        simp only [List.drop_succ_cons, List.drop_zero] at H7
        clear h7
        go_wp2_with (fail)
        go_roundw
        case rel => exact ⟨i + 1, HotM.offer h x bs, by omega, by go_num, H7.out, HotM.ok_offer OK.out HX.out BL.out, (show _ = h.room from offer_room _ _ _).trans RM.out, (show _ = h.g.room from offer_groom _ _ _).trans RK.out⟩
        case measure => simp [intOf]; omega
      · go_wp2_with (first
          | (refine wpList_val rfl (idx_act rfl (show i < k from hik2) _ _ rfl rfl) ?_)
          | (refine wpList_val rfl (load_act cs CSL.out rfl _ (b := b) (k := o + i * 3) RA.out rfl) ?_)
          | (refine wpList_box2 boxy_act rfl rfl rfl (.tmp 13) (.tmp 43) rfl rfl cs (fun _ => rfl) (fun _ => rfl) CSL.out CS1.out HS.out ?_; intro b14 w6 h6; have HX6 := Lib.hid h6; have d0 := (h6.cellV 0 rfl 0 K0.out).1; have d1 := (h6.cellV 0 rfl 1 K1.out).1; have d2 := (h6.cellV 0 rfl 2 K2.out).1; clear h6)
          | (refine wpList_val rfl (rem_u8 3 (by decide) rfl (by decide) HF3.out _ _ rfl rfl) ?_))
        refine (K.get x HX6.out.below HX6.out.swap2 OK.out HX.out).mono ?_
        rintro e w7 ⟨a7, c7, rfl, h7⟩
        have H7 := Lib.hid ((h7.drop 1).swap2.drop 1)
        simp only [List.drop_succ_cons, List.drop_zero] at H7
        clear h7
        go_wp2_with (fail)
        go_roundw
        case rel => exact ⟨i + 1, HotM.get h x, by omega, by go_num, H7.out, ok_get OK.out HX.out, (show _ = h.room from get_room _ _).trans RM.out, (show _ = h.g.room from by rw [get_g]).trans RK.out⟩
        case measure => simp [intOf]; omega
      · go_wp2_with (first
          | (refine wpList_val rfl (idx_act rfl (show i < k from hik2) _ _ rfl rfl) ?_)
          | (refine wpList_val rfl (load_act cs CSL.out rfl _ (b := b) (k := o + i * 3) RA.out rfl) ?_)
          | (refine wpList_box2 boxy_act rfl rfl rfl (.tmp 13) (.tmp 43) rfl rfl cs (fun _ => rfl) (fun _ => rfl) CSL.out CS1.out HS.out ?_; intro b14 w6 h6; have HX6 := Lib.hid h6; have d0 := (h6.cellV 0 rfl 0 K0.out).1; have d1 := (h6.cellV 0 rfl 1 K1.out).1; have d2 := (h6.cellV 0 rfl 2 K2.out).1; clear h6)
          | (refine wpList_val rfl (rem_u8 3 (by decide) rfl (by decide) HF3.out _ _ rfl rfl) ?_))
        refine (K.drop x HX6.out.below HX6.out.swap2 OK.out HX.out).mono ?_
        rintro e w7 ⟨rfl, h7⟩
        have H7 := Lib.hid (h7.swap2.drop 1)
        simp only [List.drop_succ_cons, List.drop_zero] at H7
        clear h7
        go_wp2_with (fail)
        go_roundw
        case rel => exact ⟨i + 1, HotM.drop h x, by omega, by go_num, H7.out, HotM.ok_drop OK.out x, (show _ = h.room from rfl).trans RM.out, (show _ = h.g.room from rfl).trans RK.out⟩
        case measure => simp [intOf]; omega
    · go_wp2_with (fail)
      refine (K.all HS.out.below HS.out OK.out).mono ?_
      obtain ⟨m, hm⟩ : ∃ m, m = (keys h).length := ⟨_, rfl⟩
      have hm20 : m ≤ 20 := by
        have h1 := OK.out.len
        have h2 := RM.out
        have h3 : (keys h).length = h.L.length := List.length_map ..
        omega
      rw [← hm]
      have HM := Lib.hid hm
      clear hm
      rintro e w7 ⟨ao, c, rfl, h7⟩
      have H7 := Lib.hid h7.swap2
      clear h7
      go_wp2_with (fail)
      refine (K.get ad0 H7.out.below H7.out OK.out HAD.out).mono ?_
      obtain ⟨is, his⟩ : ∃ x, x = isIn h ad0 := ⟨_, rfl⟩
      rw [← his]
      have HIS := Lib.hid his
      clear his
      rintro e w9 ⟨a9, c9, rfl, h9⟩
      have HW0 := Lib.hid ((h9.drop 1).rowFresh (e := 31) (size := 1))
      simp only [List.drop_succ_cons, List.drop_zero] at HW0
      clear h9 H7 HS
      cases is
      · have H5 := HW0
        go_wp2_with (fail)
        clear HW0
        go_loopw [17, 81] (fun v17 v81 ws => ∃ (i cnt : Nat) (ar : Option Addr) (cr : Nat) (rest : List Nat), i ≤ m ∧ cnt ≤ i + 1 ∧ v81 = .int .i64 (i : Int) ∧ v17 = .slice ar cnt cr ∧ rest.length = cnt ∧ rest = [] ++ ((keys h).take i).filter (fun x => !(x == ad0)) ∧ Own.St w.heap.size w ws (RowU (.slice ar cnt cr) rest cnt :: K.A p (HotM.get h ad0) :: RowU (.slice ao m c) (keys h) m :: [])) (fun _ v81 _ => m - (intOf v81).toNat)
        case atStart => exact ⟨0, 0, _, _, [], Nat.zero_le _, by omega, rfl, rfl, rfl, rfl, H5.out⟩
        case round =>
          obtain ⟨i, cnt, ar, cr, rest, him, hci, rfl, rfl, hrl, hre, hst⟩ := hrel
          have HRL := Lib.hid hrl
          have HRE := Lib.hid hre
          have HH := Lib.hid hst
          clear hrl hre hst H5
          by_cases hi : (i : Int) < (m : Int)
          · have him2 : i < m := by omega
            have hil : i < (keys h).length := by rw [← HM.out]; exact him2
            obtain ⟨b, hbb, ⟨u, hu, hc⟩, _, _⟩ := HH.out.rowAt 2 rfl i (by rw [Nat.mul_one]; exact him2)
            subst hbb
            obtain ⟨x, hx⟩ : ∃ x, x = (keys h)[i] := ⟨_, rfl⟩
            have hu2 : u = aV x := by
              rw [List.getElem?_map, List.getElem?_eq_getElem hil, ← hx] at hu
              exact (Option.some.inj hu).symm
            subst hu2
            have htk : Hid ((keys h).take (i + 1) = (keys h).take i ++ [x]) := by show _ = _; rw [List.take_succ_eq_append_getElem hil, hx]
            clear hu hx
            by_cases hxa : x = ad0
            · subst hxa
              go_wp2_with (fail)
              go_roundw
              case rel => exact ⟨i + 1, cnt, ar, cr, rest, by omega, by omega, by go_num, rfl, HRL.out, by rw [htk.out, List.filter_append, HRE.out]; simp, HH.out⟩
              case measure => simp [intOf]; omega
            · have hne1 : ¬ (x : Int) = (ad0 : Int) := by omega
              have hne2 : ((x : Int) != (ad0 : Int)) = true := by simp; omega
              have hone := one_row HH.out x
              have HON := Lib.hid hone
              have CX : Hid (∀ a', some (⟨wr.heap.size, 0, none⟩ : Addr) = some a' → ∀ j u, ([aV x] : List Value)[j]? = some u → (wr.alloc (.cells #[aV x] 31)).cell? (a'.add j) = some u) := by
                intro a' ha j u hu
                cases ha
                rw [add_of, Nat.zero_add]
                exact cell_of_block (heap_alloc_new wr _) (by simpa using hu)
              clear hone
              go_wp2_with (at_builtin; refine wpList_many_append manyU rfl (.tmp 88) (.tmp 90) rfl HON.out 1 rfl rfl (some ⟨wr.heap.size, 0, none⟩) 1 1 [aV x] rfl (by intro h; cases h) rfl CX.out (aV_one [x]) (by omega) (by decide) ?_; intro a5 c5 w5 h5; simp only [List.set_cons_zero, List.set_cons_succ] at h5 ⊢; have H5 := Lib.hid (h5.drop 1); clear h5)
              go_roundw
              case rel =>
                refine ⟨i + 1, cnt + 1, a5, c5, rest ++ [x], by omega, by omega, by go_num, rfl, by rw [List.length_append, HRL.out]; rfl, ?_, ?_⟩
                · rw [htk.out, List.filter_append, HRE.out]
                  simp [hxa]
                · have hh := H5.out
                  simp only [List.drop_succ_cons, List.drop_zero] at hh
                  unfold RowU
                  rw [List.map_append]
                  exact hh
              case measure => simp [intOf]; omega
          · have hmi : i = m := by omega
            have hfull : rest = keys (HotM.get h ad0) := by
              rw [HRE.out, get_order OK.out, ← HIS.out, List.take_of_length_le (by rw [← HM.out]; omega)]
              rfl
            have hcm : cnt = m := by rw [← HRL.out, hfull, get_len OK.out, HM.out]
            subst hcm
            have HFU := Lib.hid hfull
            clear hfull hmi
            go_wp2_with (fail)
            refine (K.all HH.out.below (HH.out.perm (List.Perm.swap _ _ _)) (ok_get OK.out HAD.out)).mono ?_
            rw [show (keys (HotM.get h ad0)).length = cnt by rw [← HFU.out]; exact HRL.out, ← HFU.out]
            rintro e wz ⟨az, cz, rfl, hz⟩
            have RD0 := rd_own hz 0 rfl
            have RD1 := rd_own hz 2 rfl
            have C := sameR_any rest rest cnt cnt _ _ _ RD0 RD1 HRL.out HRL.out (by omega)
            rw [show (rest == rest) = true by simp] at C
            have HC := Lib.hid C
            have HZ := Lib.hid hz
            clear C RD0 RD1 hz
            go_wp2_with (fail)
            refine HC.out.mono ?_
            rintro e wy ⟨rfl, hy⟩
            have H10 := Lib.hid (HZ.out.later hy)
            clear hy
            go_wp2_with (fail)
            go_ret
            exact ⟨rfl, H10.out.below⟩
      · have hon1 := one_row HW0.out ad0
        have HON1 := Lib.hid hon1
        have CX1 : Hid (∀ a', some (⟨w9.heap.size, 0, none⟩ : Addr) = some a' → ∀ j u, ([aV ad0] : List Value)[j]? = some u → (w9.alloc (.cells #[aV ad0] 31)).cell? (a'.add j) = some u) := by
          intro a' ha j u hu
          cases ha
          rw [add_of, Nat.zero_add]
          exact cell_of_block (heap_alloc_new w9 _) (by simpa using hu)
        clear hon1
        go_wp2_with (at_builtin; refine wpList_many_append manyU rfl (.tmp 75) (.tmp 77) rfl HON1.out 1 rfl rfl (some ⟨w9.heap.size, 0, none⟩) 1 1 [aV ad0] rfl (by intro h; cases h) rfl CX1.out (aV_one [ad0]) (by omega) (by decide) ?_; intro a5 c5 w5 h5; simp only [List.set_cons_zero, List.set_cons_succ, List.nil_append, Nat.zero_add] at h5 ⊢; have H5 := Lib.hid (h5.drop 1); clear h5)
        simp only [List.drop_succ_cons, List.drop_zero] at H5
        clear HW0
        go_loopw [17, 81] (fun v17 v81 ws => ∃ (i cnt : Nat) (ar : Option Addr) (cr : Nat) (rest : List Nat), i ≤ m ∧ cnt ≤ i + 1 ∧ v81 = .int .i64 (i : Int) ∧ v17 = .slice ar cnt cr ∧ rest.length = cnt ∧ rest = [ad0] ++ ((keys h).take i).filter (fun x => !(x == ad0)) ∧ Own.St w.heap.size w ws (RowU (.slice ar cnt cr) rest cnt :: K.A p (HotM.get h ad0) :: RowU (.slice ao m c) (keys h) m :: [])) (fun _ v81 _ => m - (intOf v81).toNat)
        case atStart => exact ⟨0, 1, _, _, [ad0], Nat.zero_le _, by omega, rfl, rfl, rfl, rfl, H5.out⟩
        case round =>
          obtain ⟨i, cnt, ar, cr, rest, him, hci, rfl, rfl, hrl, hre, hst⟩ := hrel
          have HRL := Lib.hid hrl
          have HRE := Lib.hid hre
          have HH := Lib.hid hst
          clear hrl hre hst H5
          by_cases hi : (i : Int) < (m : Int)
          · have him2 : i < m := by omega
            have hil : i < (keys h).length := by rw [← HM.out]; exact him2
            obtain ⟨b, hbb, ⟨u, hu, hc⟩, _, _⟩ := HH.out.rowAt 2 rfl i (by rw [Nat.mul_one]; exact him2)
            subst hbb
            obtain ⟨x, hx⟩ : ∃ x, x = (keys h)[i] := ⟨_, rfl⟩
            have hu2 : u = aV x := by
              rw [List.getElem?_map, List.getElem?_eq_getElem hil, ← hx] at hu
              exact (Option.some.inj hu).symm
            subst hu2
            have htk : Hid ((keys h).take (i + 1) = (keys h).take i ++ [x]) := by show _ = _; rw [List.take_succ_eq_append_getElem hil, hx]
            clear hu hx
            by_cases hxa : x = ad0
            · subst hxa
              go_wp2_with (fail)
              go_roundw
              case rel => exact ⟨i + 1, cnt, ar, cr, rest, by omega, by omega, by go_num, rfl, HRL.out, by rw [htk.out, List.filter_append, HRE.out]; simp, HH.out⟩
              case measure => simp [intOf]; omega
            · have hne1 : ¬ (x : Int) = (ad0 : Int) := by omega
              have hne2 : ((x : Int) != (ad0 : Int)) = true := by simp; omega
              have hone := one_row HH.out x
              have HON := Lib.hid hone
              have CX : Hid (∀ a', some (⟨wr.heap.size, 0, none⟩ : Addr) = some a' → ∀ j u, ([aV x] : List Value)[j]? = some u → (wr.alloc (.cells #[aV x] 31)).cell? (a'.add j) = some u) := by
                intro a' ha j u hu
                cases ha
                rw [add_of, Nat.zero_add]
                exact cell_of_block (heap_alloc_new wr _) (by simpa using hu)
              clear hone
              go_wp2_with (at_builtin; refine wpList_many_append manyU rfl (.tmp 88) (.tmp 90) rfl HON.out 1 rfl rfl (some ⟨wr.heap.size, 0, none⟩) 1 1 [aV x] rfl (by intro h; cases h) rfl CX.out (aV_one [x]) (by omega) (by decide) ?_; intro a5 c5 w5 h5; simp only [List.set_cons_zero, List.set_cons_succ] at h5 ⊢; have H5 := Lib.hid (h5.drop 1); clear h5)
              go_roundw
              case rel =>
                refine ⟨i + 1, cnt + 1, a5, c5, rest ++ [x], by omega, by omega, by go_num, rfl, by rw [List.length_append, HRL.out]; rfl, ?_, ?_⟩
                · rw [htk.out, List.filter_append, HRE.out]
                  simp [hxa]
                · have hh := H5.out
                  simp only [List.drop_succ_cons, List.drop_zero] at hh
                  unfold RowU
                  rw [List.map_append]
                  exact hh
              case measure => simp [intOf]; omega
          · have hmi : i = m := by omega
            have hfull : rest = keys (HotM.get h ad0) := by
              rw [HRE.out, get_order OK.out, ← HIS.out, List.take_of_length_le (by rw [← HM.out]; omega)]
              rfl
            have hcm : cnt = m := by rw [← HRL.out, hfull, get_len OK.out, HM.out]
            subst hcm
            have HFU := Lib.hid hfull
            clear hfull hmi
            go_wp2_with (fail)
            refine (K.all HH.out.below (HH.out.perm (List.Perm.swap _ _ _)) (ok_get OK.out HAD.out)).mono ?_
            rw [show (keys (HotM.get h ad0)).length = cnt by rw [← HFU.out]; exact HRL.out, ← HFU.out]
            rintro e wz ⟨az, cz, rfl, hz⟩
            have RD0 := rd_own hz 0 rfl
            have RD1 := rd_own hz 2 rfl
            have C := sameR_any rest rest cnt cnt _ _ _ RD0 RD1 HRL.out HRL.out (by omega)
            rw [show (rest == rest) = true by simp] at C
            have HC := Lib.hid C
            have HZ := Lib.hid hz
            clear C RD0 RD1 hz
            go_wp2_with (fail)
            refine HC.out.mono ?_
            rintro e wy ⟨rfl, hy⟩
            have H10 := Lib.hid (HZ.out.later hy)
            clear hy
            go_wp2_with (fail)
            go_ret
            exact ⟨rfl, H10.out.below⟩
end Hot
end Go.Proofs.Ytameigmoabimiaa

end
section
namespace Go.Proofs.Ytameigmoabimiaa
open Go.RowKit Go.Own
namespace Hot
open Go.GhoM Go.HotM Byt Gho
set_option maxRecDepth 6000 in
set_option maxHeartbeats 6400000 in
theorem walk_twice (r0 : Nat) (hr0 : r0 < 256) (q0 : Nat) (hq0 : q0 < 256) (a1 : Option Addr) (len1 cap1 : Nat) (l : List ActD) (ad0 : Nat) (had : ad0 < 4294967296) {w : World} (w1 : inSlice 3 inAct l w.heap.size w [.slice a1 len1 cap1]) (K : Kept w) :
    Calls Try.prog 5 #[.int .u8 (r0 : Int), .int .u8 (q0 : Int), .slice a1 len1 cap1, .int .u32 (ad0 : Int)] w (RetYes w) := by
  obtain ⟨hlen, hcap, hmax, hnil, hat⟩ := acts_in w1
  have SH := Lib.hid (shown_any K (Below.refl _ _))
  have HF := Lib.hid (fun wx hwx => few_any w1 wx hwx)
  have HAT := Lib.hid hat
  have HLEN := Lib.hid hlen
  have hcap63 : cap1 ≤ 9223372036854775807 := by unfold maxLen at hmax; omega
  have HAD := Lib.hid had
  obtain ⟨r, hr⟩ : ∃ r, r = r0 % 20 := ⟨_, rfl⟩
  obtain ⟨q1, hq⟩ : ∃ r, r = q0 % 20 := ⟨_, rfl⟩
  obtain ⟨n, hn⟩ : ∃ n, n = r + 1 := ⟨_, rfl⟩
  obtain ⟨q, hqq⟩ : ∃ n, n = q1 + 1 := ⟨_, rfl⟩
  have hr20 : r ≤ 19 := by omega
  have hq20 : q1 ≤ 19 := by omega
  have hn21 : n ≤ 20 := by omega
  have hq101 : q ≤ 20 := by omega
  have hn1 : 1 ≤ n := by omega
  have hq1 : 1 ≤ q := by omega
  have HRR := Lib.hid hr
  have HQQ := Lib.hid hq
  have N1 := fun (wx : World) (hwx : Below w.heap.size w wx) => K.new (w := wx) (B := w.heap.size) (w0 := w) (Ps := []) ((r : Int) + 1) ((q1 : Int) + 1) hwx ((Own.St.start w).later hwx) (by omega) (by omega)
  have hmb : mayBe ((r : Int) + 1) = true := by unfold mayBe; simp; omega
  have hmb2 : mayBe ((q1 : Int) + 1) = true := by unfold mayBe; simp; omega
  simp only [hmb, hmb2, and_self, if_true, show ((r : Int) + 1).toNat = n by omega, show ((q1 : Int) + 1).toNat = q by omega] at N1
  have N1 := Lib.hid N1
  have HN := Lib.hid hn
  have kc := fun (w : World) (C : Array Value) (n c : Nat) => Lib.run_convert_bytes_const (P := Try.prog) w 32 5 C n c Try.underlying32 Try.underlying5
  clear hr hq hn hqq hmb hmb2
  clear hat hlen w1 hmax had hnil
  go_enter Try.func5, Try.ntmps5
  go_wp2_with (fail)
  refine SH.out.mono ?_
  rintro e wa ⟨rfl, h1⟩
  have U1 := Lib.hid h1
  clear h1 SH
  go_wp2_with (first
    | (refine wpList_val rfl (rem_u8 20 (by decide) rfl (by decide) HRR.out _ _ rfl rfl) ?_)
    | (refine wpList_val rfl (rem_u8 20 (by decide) rfl (by decide) HQQ.out _ _ rfl rfl) ?_))
  refine (N1.out _ U1.out).mono ?_
  clear N1
  rintro e wb ⟨p, rfl, h3⟩
  have H3 := Lib.hid h3
  clear h3 U1
  go_wp2_with (fail)
  refine (HF.out wb H3.out.below).mono ?_
  rintro e wc ⟨k, rfl, rfl, hk1, hk2, hsm⟩
  have HSM := Lib.hid hsm
  clear hsm
  go_wp2
  go_loopw [41] (fun v36 wr => ∃ (i : Nat) (h : H), i ≤ k ∧ v36 = .int .i64 (i : Int) ∧ Own.St w.heap.size w wr [K.A p h] ∧ HotM.Ok h ∧ h.room = n ∧ h.g.room = q) (fun v36 _ => k - (intOf v36).toNat)
  case atStart => exact ⟨0, newH n q, Nat.zero_le _, rfl, H3.out, HotM.ok_new (by omega) (by omega), rfl, rfl⟩
  case round =>
    obtain ⟨i, h, hik, rfl, hst, hok, hroom, hkn⟩ := hrel
    have HS := Lib.hid hst
    have OK := Lib.hid hok
    have RM := Lib.hid hroom
    have RK := Lib.hid hkn
    clear hst hok hroom hkn H3
    by_cases hi : (i : Int) < (k : Int)
    · have hik2 : i < k := by omega
      have hil : i < l.length := by rw [← HLEN.out]; omega
      obtain ⟨b, o, hbo, hra⟩ := HAT.out (by intro e; rw [e] at hil; exact absurd hil (Nat.not_lt_zero _))
      subst hbo
      obtain ⟨ad, cd, hact⟩ := hra i hil
      have hb2 := HSM.out i hil hik2
      obtain ⟨kd, hkd⟩ : ∃ x, x = l[i].kind := ⟨_, rfl⟩
      obtain ⟨x, hx⟩ : ∃ x, x = l[i].addr := ⟨_, rfl⟩
      obtain ⟨bs, hbs⟩ : ∃ x, x = l[i].b := ⟨_, rfl⟩
      obtain ⟨m, hm⟩ : ∃ x, x = l[i].b.length := ⟨_, rfl⟩
      obtain ⟨cs, hcs⟩ : ∃ x, x = actC l[i] (.slice ad l[i].b.length cd) := ⟨_, rfl⟩
      have RA : Hid (wr.rangeAt b (o + i * 3) cs) := by rw [hcs]; exact (hact wr HS.out.below).range
      have CSL : Hid (cs.length = 3) := by show _ = _; rw [hcs]; rfl
      have CS1 : Hid (∀ u ∈ cs, u.oneCell' = true) := by rw [hcs]; exact actC_one _ _ _ _
      have K0 : Hid (cs[0]? = some (.int .u8 (kd : Int))) := by show _ = _; rw [hcs, hkd]; rfl
      have K1 : Hid (cs[1]? = some (aV x)) := by show _ = _; rw [hcs, hx]; rfl
      have K2 : Hid (cs[2]? = some (.slice ad m cd)) := by show _ = _; rw [hcs, hm]; rfl
      have HX : Hid (x < 4294967296) := by rw [hx]; exact (hact wr HS.out.below).addr
      have BL : Hid (bs.length ≤ 20000) := by rw [hbs]; exact hb2
      have ML : Hid (m ≤ 20000) := by rw [hm]; exact hb2
      have GV : Hid (∀ wx, Below w.heap.size w wx → Given wx ad m cd bs) := by rw [hm, hbs]; exact fun wx hwx => (hact wx hwx).given
      obtain ⟨f, hf⟩ : ∃ f, f = kd % 3 := ⟨_, rfl⟩
      have hf3 : f = 0 ∨ f = 1 ∨ f = 2 := by omega
      have HF3 := Lib.hid hf
      clear hra hact hb2 hkd hx hbs hm hcs hf
      rcases hf3 with rfl | rfl | rfl
      · go_wp2_with (first
          | (refine wpList_val rfl (idx_act rfl (show i < k from hik2) _ _ rfl rfl) ?_)
          | (refine wpList_val rfl (load_act cs CSL.out rfl _ (b := b) (k := o + i * 3) RA.out rfl) ?_)
          | (refine wpList_box2 boxy_act rfl rfl rfl (.tmp 14) (.tmp 44) rfl rfl cs (fun _ => rfl) (fun _ => rfl) CSL.out CS1.out HS.out ?_; intro b14 w6 h6; have HX6 := Lib.hid h6; have d0 := (h6.cellV 0 rfl 0 K0.out).1; have d1 := (h6.cellV 0 rfl 1 K1.out).1; have d2 := (h6.cellV 0 rfl 2 K2.out).1; clear h6)
          | (refine wpList_val rfl (rem_u8 3 (by decide) rfl (by decide) HF3.out _ _ rfl rfl) ?_))
        refine (K.offer x ad m cd bs HX6.out.below HX6.out.swap2 OK.out HX.out (GV.out _ HX6.out.below) ML.out).mono ?_
        rintro e w7 ⟨rfl, h7⟩
        have H7 := Lib.hid (h7.swap2.drop 1)
        simp only [List.drop_succ_cons, List.drop_zero] at H7
        clear h7
        go_wp2_with (fail)
        go_roundw
        case rel => exact ⟨i + 1, HotM.offer h x bs, by omega, by go_num, H7.out, HotM.ok_offer OK.out HX.out BL.out, (show _ = h.room from offer_room _ _ _).trans RM.out, (show _ = h.g.room from offer_groom _ _ _).trans RK.out⟩
        case measure => simp [intOf]; omega
      · go_wp2_with (first
          | (refine wpList_val rfl (idx_act rfl (show i < k from hik2) _ _ rfl rfl) ?_)
          | (refine wpList_val rfl (load_act cs CSL.out rfl _ (b := b) (k := o + i * 3) RA.out rfl) ?_)
          | (refine wpList_box2 boxy_act rfl rfl rfl (.tmp 14) (.tmp 44) rfl rfl cs (fun _ => rfl) (fun _ => rfl) CSL.out CS1.out HS.out ?_; intro b14 w6 h6; have HX6 := Lib.hid h6; have d0 := (h6.cellV 0 rfl 0 K0.out).1; have d1 := (h6.cellV 0 rfl 1 K1.out).1; have d2 := (h6.cellV 0 rfl 2 K2.out).1; clear h6)
          | (refine wpList_val rfl (rem_u8 3 (by decide) rfl (by decide) HF3.out _ _ rfl rfl) ?_))
        refine (K.get x HX6.out.below HX6.out.swap2 OK.out HX.out).mono ?_
        rintro e w7 ⟨a7, c7, rfl, h7⟩
        have H7 := Lib.hid ((h7.drop 1).swap2.drop 1)
        simp only [List.drop_succ_cons, List.drop_zero] at H7
        clear h7
        go_wp2_with (fail)
        go_roundw
        case rel => exact ⟨i + 1, HotM.get h x, by omega, by go_num, H7.out, ok_get OK.out HX.out, (show _ = h.room from get_room _ _).trans RM.out, (show _ = h.g.room from by rw [get_g]).trans RK.out⟩
        case measure => simp [intOf]; omega
      · go_wp2_with (first
          | (refine wpList_val rfl (idx_act rfl (show i < k from hik2) _ _ rfl rfl) ?_)
          | (refine wpList_val rfl (load_act cs CSL.out rfl _ (b := b) (k := o + i * 3) RA.out rfl) ?_)
          | (refine wpList_box2 boxy_act rfl rfl rfl (.tmp 14) (.tmp 44) rfl rfl cs (fun _ => rfl) (fun _ => rfl) CSL.out CS1.out HS.out ?_; intro b14 w6 h6; have HX6 := Lib.hid h6; have d0 := (h6.cellV 0 rfl 0 K0.out).1; have d1 := (h6.cellV 0 rfl 1 K1.out).1; have d2 := (h6.cellV 0 rfl 2 K2.out).1; clear h6)
          | (refine wpList_val rfl (rem_u8 3 (by decide) rfl (by decide) HF3.out _ _ rfl rfl) ?_))
        refine (K.drop x HX6.out.below HX6.out.swap2 OK.out HX.out).mono ?_
        rintro e w7 ⟨rfl, h7⟩
        have H7 := Lib.hid (h7.swap2.drop 1)
        simp only [List.drop_succ_cons, List.drop_zero] at H7
        clear h7
        go_wp2_with (fail)
        go_roundw
        case rel => exact ⟨i + 1, HotM.drop h x, by omega, by go_num, H7.out, HotM.ok_drop OK.out x, (show _ = h.room from rfl).trans RM.out, (show _ = h.g.room from rfl).trans RK.out⟩
        case measure => simp [intOf]; omega
    · have G0 := Lib.hid (given_lit (w := wr) [111, 110, 101] #[.int .u8 111, .int .u8 110, .int .u8 101] (by kernel_rfl) 3 rfl (by decide) (3, 4))
      have HS0 := Lib.hid (HS.out.alloc (.cells #[.int .u8 111, .int .u8 110, .int .u8 101] 5 (3, 4)))
      clear HS
      go_wp2_with (fail)
      refine (K.offer ad0 _ 3 3 [111, 110, 101] HS0.out.below HS0.out OK.out HAD.out G0.out (by decide)).mono ?_
      rintro e w7 ⟨rfl, h7⟩
      have OK1 : Hid (HotM.Ok (HotM.offer h ad0 [111, 110, 101])) := HotM.ok_offer OK.out HAD.out (by decide)
      have G1 := Lib.hid (given_lit (w := w7) [116, 119, 111] #[.int .u8 116, .int .u8 119, .int .u8 111] (by kernel_rfl) 3 rfl (by decide) (3, 4))
      have H7 := Lib.hid (h7.alloc (.cells #[.int .u8 116, .int .u8 119, .int .u8 111] 5 (3, 4)))
      clear h7 HS0 G0
      go_wp2_with (fail)
      refine (K.offer ad0 _ 3 3 [116, 119, 111] H7.out.below H7.out OK1.out HAD.out G1.out (by decide)).mono ?_
      rintro e w8 ⟨rfl, h8⟩
      have STY := Lib.hid (twice OK.out (by rw [RM.out]; exact hn1) (by rw [RK.out]; exact hq1) HAD.out (one := [111, 110, 101]) (two := [116, 119, 111]) (by decide))
      have OK2 : Hid (HotM.Ok (HotM.offer (HotM.offer h ad0 [111, 110, 101]) ad0 [116, 119, 111])) := HotM.ok_offer OK1.out HAD.out (by decide)
      have RM2 : Hid ((HotM.offer (HotM.offer h ad0 [111, 110, 101]) ad0 [116, 119, 111]).room = n) := by show _ = _; rw [offer_room, offer_room]; exact RM.out
      obtain ⟨hx, hhx⟩ : ∃ x, x = HotM.offer (HotM.offer h ad0 [111, 110, 101]) ad0 [116, 119, 111] := ⟨_, rfl⟩
      rw [← hhx] at STY OK2 RM2 h8
      have H8 := Lib.hid h8
      clear h8 H7 G1 OK1 hhx OK RM RK
      go_wp2_with (fail)
      go_loopw [79] (fun v79 ws => ∃ (j : Nat) (g : H), j ≤ r ∧ v79 = .int .i64 (j : Int) ∧ Own.St w.heap.size w ws [K.A p g] ∧ HotM.Ok g ∧ g.room = n ∧ Stay g ad0 [116, 119, 111] j) (fun v79 _ => r - (intOf v79).toNat)
      case atStart => exact ⟨0, hx, Nat.zero_le _, rfl, H8.out, OK2.out, RM2.out, STY.out⟩
      case round =>
        obtain ⟨j, g, hjr, rfl, hst, hok, hrm, hsty⟩ := hrel
        have HJ := Lib.hid hst
        have OKJ := Lib.hid hok
        have RMJ := Lib.hid hrm
        have SJ := Lib.hid hsty
        clear hst hok hrm hsty H8 OK2 RM2 STY
        by_cases hj : (j : Int) < (r : Int)
        · have hj2 : j < r := by omega
          obtain ⟨s1, hs1⟩ : ∃ s, s = (ad0 + j) % 4294967296 := ⟨_, rfl⟩
          obtain ⟨c, hc⟩ : ∃ s, s = (s1 + 1) % 4294967296 := ⟨_, rfl⟩
          have had := HAD.out
          have hca : c ≠ ad0 := by omega
          have hc32 : c < 4294967296 := by omega
          have e0 : (j : Int) % 4294967296 = (j : Int) := by omega
          have e1 : ((ad0 : Int) + (j : Int)) % 4294967296 = (s1 : Int) := by omega
          have e2 : ((s1 : Int) + 1) % 4294967296 = (c : Int) := by omega
          have f0 : IntKind.u32.wrap (j : Int) = (j : Int) := by simp [IntKind.wrap, IntKind.signed, IntKind.bits]; omega
          have f1 : IntKind.u32.wrap ((ad0 : Int) + (j : Int)) = (s1 : Int) := by simp [IntKind.wrap, IntKind.signed, IntKind.bits]; omega
          have f2 : IntKind.u32.wrap ((s1 : Int) + 1) = (c : Int) := by simp [IntKind.wrap, IntKind.signed, IntKind.bits]; omega
          have HCA := Lib.hid hca
          have HC32 := Lib.hid hc32
          clear hs1 hc had hca hc32
          go_wp2_with (fail)
          refine (K.offer c none 0 0 [] HJ.out.below HJ.out OKJ.out HC32.out given_none (by decide)).mono ?_
          rintro e w9 ⟨rfl, h9⟩
          have H9 := Lib.hid h9
          have OK9 : Hid (HotM.Ok (HotM.offer g c [])) := HotM.ok_offer OKJ.out HC32.out (by decide)
          have X9 : Hid (StayX (HotM.offer g c []) ad0 [116, 119, 111] c j) := x_offer OKJ.out HCA.out (by rw [RMJ.out, HN.out]; omega) (stay_x SJ.out c)
          clear h9
          go_wp2_with (fail)
          refine (K.offer c none 0 0 [] H9.out.below H9.out OK9.out HC32.out given_none (by decide)).mono ?_
          rintro e wz ⟨rfl, hz⟩
          have HZ := Lib.hid hz
          have OKZ : Hid (HotM.Ok (HotM.offer (HotM.offer g c []) c [])) := HotM.ok_offer OK9.out HC32.out (by decide)
          have SZ : Hid (Stay (HotM.offer (HotM.offer g c []) c []) ad0 [116, 119, 111] (j + 1)) := x_stay OKZ.out (x_offer OK9.out HCA.out (by rw [offer_room, RMJ.out, HN.out]; omega) X9.out)
          clear hz
          go_wp2_with (fail)
          go_roundw
          case rel => exact ⟨j + 1, _, by omega, by go_num, HZ.out, OKZ.out, by rw [offer_room, offer_room]; exact RMJ.out, SZ.out⟩
          case measure => simp [intOf]; omega
        · obtain ⟨hi1, hi2⟩ := stay_get OKJ.out SJ.out
          have HG := Lib.hid (get_lit K (Below.refl _ _) (Nat.le_refl _) HJ.out OKJ.out ad0 HAD.out hi1 hi2 (n := 3) rfl rfl)
          clear hi1 hi2
          go_wp2_with (fail)
          refine HG.out.mono ?_
          rintro e w9 ⟨a9, c9, rfl, h9⟩
          have H9 := Lib.hid h9
          have st := given_str (given_own h9 0 rfl)
          have hcs : (strB [116, 119, 111]).toList = [116, 119, 111] := strB_toList _
          clear h9 HG kc
          go_wp2_with (fail)
          go_ret
          exact ⟨rfl, H9.out.below⟩
end Hot
end Go.Proofs.Ytameigmoabimiaa

end
section
namespace Go.Own
open Go.RowKit Go.Maps

open Classical in
noncomputable def putK {α : Type} (g : Lit → α) (kl : Lit) (x : α) : Lit → α := fun l => if l = kl then x else g l
theorem putK_same {α : Type} {g : Lit → α} {kl : Lit} {x : α} : putK g kl x kl = x := by unfold putK; rw [if_pos rfl]
theorem putK_other {α : Type} {g : Lit → α} {kl l : Lit} {x : α} (h : l ≠ kl) : putK g kl x l = g l := by unfold putK; rw [if_neg h]
def rawV : Value → Option (DataW Value × List MemPlace) := fun v => some (.held v, [])
/-- block b is a map of at most n entries; g: the value at a key; z: where there is none -/
def AMap (P : Program) (kt : TypeId) (z : Value) (b n : Nat) (g : Lit → Value) : Asn where
  holds S w := (∃ D : DataW Value, w.ownsMap P kt rawV b n D ∧ ∀ kl, D.atKey kl (.held z) = .held (g kl)) ∧ ∀ k, S k ↔ k = b
  keep h gs hd := by
    obtain ⟨⟨D, ⟨es, clock, hb, r⟩, h1⟩, h5⟩ := h
    exact ⟨⟨D, ⟨es, clock, (gs.block _ (lt_of_block hb) (hd _ ((h5 _).2 rfl))).trans hb, r⟩, h1⟩, h5⟩
  lt h k hk := by
    obtain ⟨⟨D, hm, h1⟩, h5⟩ := h
    rw [(h5 k).1 hk]
    exact hm.lt
section
variable {P : Program} {kt mt vt : TypeId} {z : Value} {B : Nat} {w0 w : World} {Ps : List Asn} {b n : Nat} {g : Lit → Value}
theorem St.mapMake (H : St B w0 w Ps) : ∃ w' b, (Instr.makeMap mt none).run P w = .ok (.map (some b)) w' ∧ St B w0 w' (AMap P kt z b 0 (fun _ => z) :: Ps) := by
  refine ⟨_, w.heap.size, run_makeMap mt w, H.new (S' := fun k => k = w.heap.size) (AMap P kt z _ 0 _) ⟨⟨.map [], World.ownsMap_made w _ _ _, fun kl => rfl⟩, fun k => Iff.rfl⟩ (((Step.refl (fun _ => False) w).alloc (.map #[] 0)).to (fun k hk => .inr (Nat.le_of_eq hk.symm)))⟩
theorem St.mapLook (H : St B w0 w Ps) (i : Nat) (hi : Ps[i]? = some (AMap P kt z b n g)) (K : Keyed P kt) (hmt : P.underlying mt = some (.map kt vt)) (hz : ∀ w, (zeroValue vt).run P w = .ok z w) {kv : Value} {kl : Lit} (hk : keyOf P kt kv = some kl) :
    (Instr.lookup mt (.map (some b)) kv false).run P w = .ok (g kl) w := by
  obtain ⟨S, ⟨⟨D, hm, h1⟩, _⟩, _⟩ := H.at i hi
  obtain ⟨v, ps, hrun, hv⟩ := hm.lookup K hmt (hz w) (zd := .held z) (zp := []) rfl hk
  rw [h1] at hv
  simp only [rawV, Option.some.injEq, Prod.mk.injEq, DataW.held.injEq] at hv
  rw [hrun, hv.1]
theorem St.mapPut (H : St B w0 w Ps) (i : Nat) (hi : Ps[i]? = some (AMap P kt z b n g)) (K : Keyed P kt) (hmt : P.underlying mt = some (.map kt vt)) (hn : n < 1000000000) {kv : Value} {kl : Lit} (hk : keyOf P kt kv = some kl) (v : Value) :
    ∃ w', (Instr.mapUpdate mt (.map (some b)) kv v).run P w = .ok () w' ∧ St B w0 w' (Ps.set i (AMap P kt z b (n + 1) (putK g kl v))) := by
  obtain ⟨S, ⟨⟨D, hm, h1⟩, h5⟩, _, put⟩ := H.at i hi
  obtain ⟨w2, hrun2, hm2, g2⟩ := hm.update K hmt (by unfold maxLen; omega) hk (val := v) (d := .held v) (ps := []) rfl
  have hD : IsMap D := by obtain ⟨es, clock, _, _, _, hD⟩ := hm; exact ⟨_, hD⟩
  refine ⟨w2, hrun2, put (fun k => k = b) w2 (AMap P kt z b (n + 1) _) ⟨⟨_, hm2, fun l => ?_⟩, fun k => Iff.rfl⟩ ?_⟩
  · by_cases hl : l = kl
    · subst hl
      rw [putK_same]
      exact atKey_put_same hD (K.key hk) _ _
    · rw [putK_other hl, atKey_put_other hl]
      exact h1 l
  · refine ⟨g2.os, g2.tape, g2.output, g2.size, fun k hk hn => g2.block k hk (fun e => hn ((h5 k).2 (by cases e; rfl))), fun k hk => .inl ((h5 k).2 hk)⟩
end
/-- a look-up, as an operation -/
theorem look_exec {P : Program} {o : Oper} {x y : Tmp} {mt : TypeId} (ho : o.op = .lookup mt (.tmp x) (.tmp y) false) {m kv v : Value} {w : World} (hrun : (Instr.lookup mt m kv false).run P w = .ok v w) (ρ : Operand → Value) (h0 : ρ (.tmp x) = m) (h1 : ρ (.tmp y) = kv) : (execOp ρ o).run P w = .ok (.value v) w := by
  simp [execOp, ho, h0, h1, hrun, go_sem]
end Go.Own

end
section
namespace Go.Own
open Go.RowKit
section
variable {α : Type}
/-- the first of them -/
theorem St.firsts {B : Nat} {w0 w : World} {As Bs : List Asn} (h : St B w0 w (As ++ Bs)) : St B w0 w As := by
  have h2 := (h.perm (List.perm_append_comm (l₁ := As) (l₂ := Bs))).drop Bs.length
  rwa [List.drop_left] at h2
end
end Go.Own

end
