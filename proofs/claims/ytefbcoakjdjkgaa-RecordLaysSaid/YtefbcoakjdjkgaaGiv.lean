/- Bytes that a call may be given, or that it answers ('Given'); small facts on bytes, for all later layers. -/
import Derived.Test.YtefbcoakjdjkgaaByt
namespace Go.Proofs.Ytefbcoakjdjkgaa
open Go.RowKit Go.Own
namespace Byt

/-- bytes that a call may be given -/
structure Given (w : World) (ao : Option Addr) (len cap : Nat) (l : List UInt8) : Prop where
  view : View w (fun k => k < w.heap.size) ao l
  size : l.length = len
  room : len ≤ cap ∧ cap ≤ maxLen
  nil : ao = none → cap = 0
theorem Given.later {w w' : World} {ao : Option Addr} {len cap : Nat} {l : List UInt8} (h : Given w ao len cap l) (g : Below w.heap.size w w') : Given w' ao len cap l :=
  ⟨(View.below h.view g).mono (fun k hk => by have := g.size; omega), h.size, h.room, h.nil⟩

theorem given_new (w : World) (l : List UInt8) (n : Nat) (hn : l.length = n) (hc : n ≤ 1000) (t : TypeId) (fz : Nat × Nat) : Given (w.alloc (.cells (l.map byteV).toArray t fz)) (some ⟨w.heap.size, 0, none⟩) n n l := by
  refine ⟨.inr ⟨w.heap.size, 0, rfl, by simp, by simp, fun j hj => ?_⟩, hn, ⟨Nat.le_refl _, by unfold maxLen; omega⟩, fun h => by cases h⟩
  have hb : (w.alloc (.cells (l.map byteV).toArray t fz)).heap[w.heap.size]? = some (.cells (l.map byteV).toArray t fz) := heap_alloc_new w _
  exact cell_of_block (i := 0 + j) hb (by simp [byteV, hj])

theorem i64_in {a : Int} (h : (Lit.int .i64 a).wf = true) : -9223372036854775808 ≤ a ∧ a ≤ 9223372036854775807 := by
  simp [Lit.wf, IntKind.min, IntKind.max, IntKind.signed, IntKind.bits] at h
  omega

/-- the first k bytes are laid -/
def ones (c : UInt8) (N k : Nat) : List UInt8 := List.replicate k c ++ List.replicate (N - k) 0
theorem ones_zero (c : UInt8) (N : Nat) : ones c N 0 = List.replicate N 0 := by simp [ones]
theorem ones_all (c : UInt8) (N : Nat) : ones c N N = List.replicate N c := by simp [ones]
theorem ones_set (c : UInt8) (N k : Nat) (h : k < N) : (ones c N k).set k c = ones c N (k + 1) := by
  unfold ones
  obtain ⟨r, hr⟩ : ∃ r, N - k = r + 1 := ⟨N - k - 1, by omega⟩
  rw [hr, show N - (k + 1) = r by omega, List.replicate_succ, List.replicate_succ']
  simp
theorem u16_nat {a : Int} (h : (Lit.int .u16 a).wf = true) : ∃ u : Nat, a = u ∧ u < 65536 := by
  have h' : 0 ≤ a ∧ a ≤ 65535 := by simpa [Lit.wf, IntKind.min, IntKind.max, IntKind.signed, IntKind.bits] using h
  exact ⟨a.toNat, by omega, by omega⟩
theorem u8_byte {a : Int} (h : (Lit.int .u8 a).wf = true) : ∃ c : UInt8, a = (c.toNat : Int) := by
  have h' : 0 ≤ a ∧ a ≤ 255 := by simpa [Lit.wf, IntKind.min, IntKind.max, IntKind.signed, IntKind.bits] using h
  exact ⟨UInt8.ofNat a.toNat, by simp; omega⟩
/-- bytes of one's own may be given -/
theorem given_own {B : Nat} {w0 w : World} {Ps : List Asn} {ao : Option Addr} {n cap : Nat} {l : List UInt8} (H : St B w0 w Ps) (i : Nat) (hi : Ps[i]? = some (AB ao n cap l)) : Given w ao n cap l := by
  obtain ⟨h1, h2, h3, h4⟩ := ab_len H i hi
  exact ⟨(ab_view H i hi).live.mono (fun k hk => hk.2), h1, ⟨h2, h3⟩, fun h => (h4 h).2⟩

theorem given_nil {w : World} {ao : Option Addr} {n cap : Nat} {l : List UInt8} (h : Given w ao n cap l) : ao = none → n = 0 ∧ cap = 0 := fun e => ⟨by have := h.room.1; rw [h.nil e] at this; omega, h.nil e⟩
theorem pos_cell {c : UInt8} : byteV c = .int .u8 (c.toNat : Int) := rfl
theorem two_cells (w : World) (c d : UInt8) (t : TypeId) : ∀ a, some (⟨w.heap.size, 0, none⟩ : Addr) = some a → ∀ j u, ([c, d].map byteV)[j]? = some u → (w.alloc (.cells #[.int .u8 (c.toNat : Int), .int .u8 (d.toNat : Int)] t)).cell? (a.add j) = some u := by
  intro a ha j u hj
  cases ha
  match j, hj with
  | 0, hj => simp at hj; subst hj; simp [Addr.add, byteV]
  | 1, hj => simp at hj; subst hj; simp [Addr.add, byteV]

/-- a slice of one byte, as it is built -/
theorem ab_one {B : Nat} {w0 w : World} {Ps : List Asn} (H : St B w0 w Ps) (c : UInt8) : St B w0 (w.alloc (.cells #[.int .u8 (c.toNat : Int)] 5)) (AB (some ⟨w.heap.size, 0, none⟩) 1 1 [c] :: Ps) :=
  H.new (S' := fun k => k = w.heap.size) (AB _ 1 1 [c]) (Row.made w #[.int .u8 (c.toNat : Int)] 5 1 1 (by unfold maxLen; omega) rfl) (((Step.refl (fun _ => False) w).alloc _).to (fun k hk => Or.inr (Nat.le_of_eq hk.symm)))

theorem vcell {w : World} {D : Nat → Prop} {b o : Nat} {l : List UInt8} (h : View w D (some ⟨b, o, none⟩) l) {k : Nat} (hk : k < l.length) : w.cell? ⟨b, o + k, none⟩ = some (.int .u8 ((l.getD k 0).toNat : Int)) := by
  obtain ⟨b', o', e, _, _, hc⟩ := vat h hk
  cases e
  exact hc

theorem in_given {l : List UInt8} {w : World} {ao : Option Addr} {n cap : Nat} (h : inBytes l w.heap.size w [.slice ao n cap]) : Given w ao n cap l := by
  obtain ⟨ao', cap', h1, h2, h3, h4, h5⟩ := h
  simp only [List.cons.injEq, Value.slice.injEq, and_true] at h1
  obtain ⟨rfl, rfl, rfl⟩ := h1
  exact ⟨h5, rfl, ⟨h2, h3⟩, h4⟩
theorem given_take {w : World} {ao : Option Addr} {n cap : Nat} {l : List UInt8} (h : Given w ao n cap l) (m : Nat) (hm : m ≤ n) : Given w ao m cap (l.take m) :=
  ⟨vtake h.view m, by rw [List.length_take, h.size]; omega, ⟨Nat.le_trans hm h.room.1, h.room.2⟩, h.nil⟩
theorem cellLater {W w : World} {a : Addr} {v : Value} (h : W.cell? a = some v) (hb : Below W.heap.size W w) : w.cell? a = some v := by
  rw [hb.cell (World.block_lt_of_cell? W a h)]; exact h

theorem idx_zero {o : Oper} {x : Tmp} (ho : o.op = .indexAddr 28 (.tmp x) (.const (.int .i64 0))) {b k n c : Nat} (hn : 0 < n) (ρ : Operand → Value) (w : World) (h0 : ρ (.tmp x) = .slice (some ⟨b, k, none⟩) n c) (h1 : ρ (.const (.int .i64 0)) = .int .i64 0) : (execOp ρ o).run Try.prog w = .ok (.value (.pointer (some ⟨b, k, none⟩))) w := by
  have e0 : (⟨b, k, none⟩ : Addr).add 0 = ⟨b, k, none⟩ := by rw [add_of]; rfl
  simp [execOp, ho, h0, h1, go_sem, hn, e0]
theorem load_u8 {o : Oper} {x : Tmp} (ho : o.op = .load 5 (.tmp x)) {a : Addr} {v : Int} (ρ : Operand → Value) {w : World} (hc : w.cell? a = some (.int .u8 v)) (h0 : ρ (.tmp x) = .pointer (some a)) : (execOp ρ o).run Try.prog w = .ok (.value (.int .u8 v)) w := by
  simp [execOp, ho, h0, go_sem, hc]
theorem given_str {w : World} {ao : Option Addr} {n cap : Nat} {l : List UInt8} (g : Given w ao n cap l) : (convert 28 9 (.slice ao n cap)).run Try.prog w = .ok (.string (strB l)) w := by
  have h := g.size
  subst h
  exact run_str (P := Try.prog) 28 5 9 Try.underlying28 Try.underlying5 Try.underlying9 g.view cap

theorem add_ints {o : Oper} {x y : Tmp} (ho : o.op = .binOp .add 3 (.tmp x) (.tmp y) 3) (k j : Nat) (hb : k + j ≤ 1000000000) {q : Nat} (hq : q = k + j) (ρ : Operand → Value) (w : World) (h0 : ρ (.tmp x) = .int .i64 (k : Int)) (h1 : ρ (.tmp y) = .int .i64 (j : Int)) : (execOp ρ o).run Try.prog w = .ok (.value (.int .i64 (q : Int))) w := by
  have e : IntKind.i64.wrap ((k : Int) + (j : Int)) = (q : Int) := (IntWalk.i64_in _ (by omega)).trans (by omega)
  simp only [execOp, ho, h0, h1]
  generalize (k : Int) = m at e
  generalize (j : Int) = m2 at e
  simp [go_sem, e]
theorem sub_ints {o : Oper} {x y : Tmp} (ho : o.op = .binOp .sub 3 (.tmp x) (.tmp y) 3) (k j : Nat) (hb : j ≤ k ∧ k ≤ 1000000000) {q : Nat} (hq : q = k - j) (ρ : Operand → Value) (w : World) (h0 : ρ (.tmp x) = .int .i64 (k : Int)) (h1 : ρ (.tmp y) = .int .i64 (j : Int)) : (execOp ρ o).run Try.prog w = .ok (.value (.int .i64 (q : Int))) w := by
  have e : IntKind.i64.wrap ((k : Int) - (j : Int)) = (q : Int) := (IntWalk.i64_in _ (by omega)).trans (by omega)
  simp only [execOp, ho, h0, h1]
  generalize (k : Int) = m at e
  generalize (j : Int) = m2 at e
  simp [go_sem, e]
theorem idx_at {o : Oper} {x y : Tmp} (ho : o.op = .indexAddr 28 (.tmp x) (.tmp y)) {b g n c k : Nat} (hk : k < n) (ρ : Operand → Value) (w : World) (h0 : ρ (.tmp x) = .slice (some ⟨b, g, none⟩) n c) (h1 : ρ (.tmp y) = .int .i64 (k : Int)) : (execOp ρ o).run Try.prog w = .ok (.value (.pointer (some ⟨b, g + k, none⟩))) w := by
  have hk' : (k : Int) < (n : Int) := by omega
  simp [execOp, ho, h0, h1, go_sem, hk, hk', add_of]
/-- a slice of two bytes, as it is built -/
theorem ab_two {B : Nat} {w0 w : World} {Ps : List Asn} (H : St B w0 w Ps) (c d : UInt8) : St B w0 (w.alloc (.cells #[.int .u8 (c.toNat : Int), .int .u8 (d.toNat : Int)] 5)) (AB (some ⟨w.heap.size, 0, none⟩) 2 2 [c, d] :: Ps) :=
  H.new (S' := fun k => k = w.heap.size) (AB _ 2 2 [c, d]) (Row.made w #[.int .u8 (c.toNat : Int), .int .u8 (d.toNat : Int)] 5 1 2 (by unfold maxLen; omega) rfl) (((Step.refl (fun _ => False) w).alloc _).to (fun k hk => Or.inr (Nat.le_of_eq hk.symm)))

end Byt
end Go.Proofs.Ytefbcoakjdjkgaa
