/- Slots that hold new bytes. -/
import Derived.Test.YtefbcoakjdjkgaaLax
import Derived.Test.YtefbcoakjdjkgaaCodP
import Derived.Test.YtefbcoakjdjkgaaIn
namespace Go.Proofs.Ytefbcoakjdjkgaa
open Go.RowKit Go.Own
namespace Cod

/-- new bytes -/
def tyB (l : List UInt8) (n : Nat) : Ty where
  holds v w := ∃ ao cap T, v = .slice ao n cap ∧ Row w 5 1 T (.slice ao n cap) n (l.map byteV)
  keep := fun ⟨ao, cap, T, h1, h2⟩ g => ⟨ao, cap, T, h1, h2.step (S := fun _ => False) (U := fun _ => False) ⟨g.os, g.tape, g.output, g.size, fun k hk _ => g.block k hk, fun _ h => h.elim⟩ (fun _ _ h => h)⟩

theorem below_of_step {T : Nat → Prop} {w w' : World} (h : Step (fun _ => False) T w w') : Below w.heap.size w w' := ⟨h.os, h.tape, h.output, h.size, fun k hk => h.block k hk (fun h => h)⟩

theorem tyB_len {l : List UInt8} {n : Nat} {v : Value} {w : World} (h : (tyB l n).holds v w) : l.length = n := by
  obtain ⟨ao, cap, T, _, hr⟩ := h
  have := hr.own.1
  simpa using this

theorem tyB_str {l : List UInt8} {n : Nat} {v : Value} {w : World} (h : (tyB l n).holds v w) : (convert 28 9 v).run Try.prog w = .ok (.string (strB l)) w := by
  have hl := tyB_len h
  obtain ⟨ao, cap, T, rfl, hr⟩ := h
  subst hl
  exact run_str (P := Try.prog) 28 5 9 Try.underlying28 Try.underlying5 Try.underlying9 (Row.view hr) cap

/-- old bytes as a string, in every later world -/
theorem str_old {W : World} {D : Nat → Prop} {ao : Option Addr} {l : List UInt8} {n : Nat} (hV : View W D ao l) (hn : l.length = n) (cap : Nat) {w : World} (hb : Below W.heap.size W w) :
    (convert 28 9 (.slice ao n cap)).run Try.prog w = .ok (.string (strB l)) w := by
  subst hn
  exact run_str (P := Try.prog) 28 5 9 Try.underlying28 Try.underlying5 Try.underlying9 ((hV.live.mono fun k hk => hk.2).below hb) cap

theorem view_later {W w : World} {D : Nat → Prop} {ao : Option Addr} {l : List UInt8} (hV : View W D ao l) (hb : Below W.heap.size W w) : View w (fun k => k < W.heap.size) ao l := (hV.live.mono fun _ hk => hk.2).below hb

/-- the first k bytes; the bytes from k on -/
theorem cut_to {o : Oper} {x y : Tmp} (ho : o.op = .slice 28 (.tmp x) none (some (.tmp y)) none) (ao : Option Addr) (m cap k : Nat) (hk : k ≤ m) (hm : m ≤ cap) (hc : cap ≤ maxLen) (hno : ao = none → cap = 0) :
    ∀ (ρ : Operand → Value) w, ρ (.tmp x) = .slice ao m cap → ρ (.tmp y) = .int .i64 k → (execOp ρ o).run Try.prog w = .ok (.value (.slice ao k cap)) w := by
  intro ρ w h0 h1
  unfold maxLen at hc
  cases ao with
  | none =>
    obtain rfl := hno rfl
    obtain rfl : m = 0 := by omega
    obtain rfl : k = 0 := by omega
    simp [execOp, ho, h0, h1, go_sem]
  | some a =>
    simp [execOp, ho, h0, h1, go_sem]
    omega

theorem cut_from (ao : Option Addr) (l : List UInt8) (m cap k : Nat) (hl : l.length = m) (hk : k ≤ m) (hm : m ≤ cap) (hc : cap ≤ maxLen) (hno : ao = none → cap = 0) :
    ∃ a' c', (∀ (o : Oper) (x y : Tmp), o.op = .slice 28 (.tmp x) (some (.tmp y)) none none → ∀ (ρ : Operand → Value) w, ρ (.tmp x) = .slice ao m cap → ρ (.tmp y) = .int .i64 k → (execOp ρ o).run Try.prog w = .ok (.value (.slice a' (m - k) c')) w) ∧ ∀ w D, View w D ao l → View w D a' (l.drop k) := by
  unfold maxLen at hc
  cases ao with
  | none =>
    obtain rfl := hno rfl
    obtain rfl : m = 0 := by omega
    obtain rfl : k = 0 := by omega
    exact ⟨none, 0, fun o x y ho ρ w h0 h1 => by simp [execOp, ho, h0, h1, go_sem], fun w D h => by simpa using h⟩
  | some a =>
    by_cases hck : cap = k
    · refine ⟨some a, 0, fun o x y ho ρ w h0 h1 => ?_, fun w D h => .inl (List.drop_eq_nil_of_le (by omega))⟩
      simp [execOp, ho, h0, h1, go_sem]
      rw [if_pos hk, if_pos hck, hck]; simp
    · refine ⟨some (a.add k), cap - k, fun o x y ho ρ w h0 h1 => ?_, fun w D h => ?_⟩
      · simp [execOp, ho, h0, h1, go_sem]
        rw [if_pos hk, if_neg hck]
      · rcases h with h | ⟨b, o, e, h1, h2, h3⟩
        · exact .inl (by rw [h, List.drop_nil])
        · obtain rfl : a = ⟨b, o, none⟩ := by simpa using e
          rw [add_of]
          exact View.drop (.inr ⟨b, o, rfl, h1, h2, h3⟩) k

end Cod
end Go.Proofs.Ytefbcoakjdjkgaa
