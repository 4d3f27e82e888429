/- Arrays of numbers, compared. -/
import Derived.Test.YtefbcoakjdjkgaaOwn
import Derived.Laws.StructEq
import Derived.Laws.Cover2
namespace Go.Own
open Go.RowKit

theorem run_equalIn_ints {P : Program} (d : Nat) (t e : TypeId) (k : IntKind) (l m : List Int) (hlm : l.length = m.length) (ht : P.underlying t = some (.array l.length e)) (he : P.underlying e = some (.int k)) (hse : ∀ w, (sizeOf e).run P w = .ok 1 w) (ha : ∀ w, (isAgg e).run P w = .ok false w) (w : World) :
    (Op.equalIn (d + 2) t (.agg (l.map (Value.int k)).toArray) (.agg (m.map (Value.int k)).toArray)).run P w = .ok (decide (l = m)) w := by
  rw [show d + 2 = (d + 1) + 1 from rfl, Op.equalIn]
  simp only [Sem.run_bind, run_underlying ht, Result.andThen_ok]
  simp only [Std.Legacy.Range.forIn_eq_forIn_range', Std.Legacy.Range.size, Nat.sub_zero, Nat.add_sub_cancel, Nat.div_one]
  simp only [hse, Result.andThen_ok, Nat.mul_one]
  have part_at : ∀ (l : List Int) (j : Nat) (h : j < l.length), (part e (l.map (Value.int k)).toArray j).run P w = .ok (.int k l[j]) w := by
    intro l j h
    unfold part
    simp only [Sem.run_bind, ha, Result.andThen_ok]
    simp [h, go_sem]
  obtain ⟨g, hg⟩ : ∃ g : Nat → Option Bool × Unit → Sem (ForInStep (Option Bool × Unit)), g = (fun i __s => do
            let __do_lift ← part e (List.map (Value.int k) l).toArray i
            let __do_lift_1 ← part e (List.map (Value.int k) m).toArray i
            let __do_lift ← Op.equalIn (d + 1) e __do_lift __do_lift_1
            if (!__do_lift) = true then pure (ForInStep.done (some false, ())) else pure (ForInStep.yield (none, ()))) := ⟨_, rfl⟩
  have hrun : ∀ (j : Nat) (h1 : j < l.length) (h2 : j < m.length), (g j (none, ())).run P w = .ok (if l[j] = m[j] then ForInStep.yield (none, ()) else ForInStep.done (some false, ())) w := by
    intro j h1 h2
    rw [hg]
    simp only [Sem.run_bind, part_at l j h1, part_at m j h2, Result.andThen_ok, run_equalIn_int _ d e k k _ _ he]
    by_cases h : l[j] = m[j]
    · rw [if_pos h, h]; simp
    · rw [if_neg h]; simp [h]
  rw [← hg]
  clear hg
  have aux : ∀ (s j : Nat), j + s = l.length → (forIn (m := Sem) (List.range' j s) ((none, ()) : Option Bool × Unit) g).run P w =
      .ok (if l.drop j = m.drop j then (none, ()) else (some false, ())) w := by
    intro s
    induction s with
    | zero =>
      intro j hj
      rw [List.drop_eq_nil_of_le (by omega), List.drop_eq_nil_of_le (by omega)]
      simp
    | succ s ih =>
      intro j hj
      have h1 : j < l.length := by omega
      have h2 : j < m.length := by omega
      rw [List.range'_succ, List.forIn_cons, Sem.run_bind, hrun j h1 h2, Result.andThen_ok]
      have e1 : l.drop j = l[j] :: l.drop (j + 1) := List.drop_eq_getElem_cons h1
      have e2 : m.drop j = m[j] :: m.drop (j + 1) := List.drop_eq_getElem_cons h2
      by_cases h : l[j] = m[j]
      · rw [if_pos h]
        show (forIn (m := Sem) (List.range' (j + 1) s) ((none, ()) : Option Bool × Unit) g).run P w = _
        rw [ih (j + 1) (by omega), e1, e2, h]
        by_cases hd : l.drop (j + 1) = m.drop (j + 1)
        · rw [if_pos hd, if_pos (by rw [hd])]
        · rw [if_neg hd, if_neg (fun hc => hd (List.cons.inj hc).2)]
      · rw [if_neg h, if_neg]
        · simp
        · rw [e1, e2]
          intro hc
          exact h (List.cons.inj hc).1
  rw [aux l.length 0 (by omega)]
  simp only [List.drop_zero]
  by_cases h : l = m
  · simp [h]
  · simp [h]

theorem run_eql_ints {P : Program} (t e : TypeId) (k : IntKind) (l m : List Int) (hlm : l.length = m.length) (ht : P.underlying t = some (.array l.length e)) (he : P.underlying e = some (.int k)) (hse : ∀ w, (sizeOf e).run P w = .ok 1 w) (ha : ∀ w, (isAgg e).run P w = .ok false w) (w : World) :
    (binOp .eql t (.agg (l.map (Value.int k)).toArray) (.agg (m.map (Value.int k)).toArray)).run P w = .ok (.bool (decide (l = m))) w := by
  rw [run_eql_struct, show (10000 : Nat) = 9998 + 2 from rfl, run_equalIn_ints 9998 t e k l m hlm ht he hse ha]
  rfl
theorem run_neq_ints {P : Program} (t e : TypeId) (k : IntKind) (l m : List Int) (hlm : l.length = m.length) (ht : P.underlying t = some (.array l.length e)) (he : P.underlying e = some (.int k)) (hse : ∀ w, (sizeOf e).run P w = .ok 1 w) (ha : ∀ w, (isAgg e).run P w = .ok false w) (w : World) :
    (binOp .neq t (.agg (l.map (Value.int k)).toArray) (.agg (m.map (Value.int k)).toArray)).run P w = .ok (.bool (!decide (l = m))) w := by
  rw [run_neq_struct, show (10000 : Nat) = 9998 + 2 from rfl, run_equalIn_ints 9998 t e k l m hlm ht he hse ha]
  rfl
end Go.Own
