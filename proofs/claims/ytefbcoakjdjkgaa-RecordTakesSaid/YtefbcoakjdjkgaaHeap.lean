/- What a call holds, as a list of objects that lie apart: each with its own blocks. -/
import Derived.Test.YtefbcoakjdjkgaaOwn
namespace Go.Own
open Go.RowKit

/-- an object: what is so of it, given the blocks that it holds; what others turn does not touch it -/
structure Asn where
  holds : (Nat → Prop) → World → Prop
  keep : ∀ {S T U : Nat → Prop} {w w' : World}, holds S w → Step T U w w' → Dis S T → holds S w'
  lt : ∀ {S : Nat → Prop} {w : World}, holds S w → ∀ k, S k → k < w.heap.size

/-- the objects lie apart, and hold the blocks S together -/
def Apart (w : World) : List Asn → (Nat → Prop) → Prop
  | [], S => ∀ k, ¬ S k
  | P :: Ps, S => ∃ S1 S2, P.holds S1 w ∧ Apart w Ps S2 ∧ Dis S1 S2 ∧ ∀ k, S k ↔ (S1 k ∨ S2 k)

theorem Apart.lt {w : World} : ∀ {Ps : List Asn} {S : Nat → Prop}, Apart w Ps S → ∀ k, S k → k < w.heap.size
  | [], _, h, k, hk => absurd hk (h k)
  | P :: _, _, ⟨_, _, h1, h2, _, h4⟩, k, hk => ((h4 k).1 hk).elim (P.lt h1 k) (fun h => h2.lt k h)

theorem Apart.keep {w w' : World} {T U : Nat → Prop} (g : Step T U w w') : ∀ {Ps : List Asn} {S : Nat → Prop}, Apart w Ps S → Dis S T → Apart w' Ps S
  | [], _, h, _ => h
  | P :: _, _, ⟨S1, S2, h1, h2, h3, h4⟩, hd => ⟨S1, S2, P.keep h1 g (fun k hk => hd k ((h4 k).2 (.inl hk))), h2.keep g (fun k hk => hd k ((h4 k).2 (.inr hk))), h3, h4⟩

/-- one of them is looked at, turned into something else, and put back -/
theorem Apart.at {w : World} : ∀ {Ps : List Asn} {S : Nat → Prop} (i : Nat) {P : Asn}, Apart w Ps S → Ps[i]? = some P →
    ∃ Si, P.holds Si w ∧ (∀ k, Si k → S k) ∧ (∀ (j : Nat) (R : Asn), j ≠ i → Ps[j]? = some R → ∃ Sj, R.holds Sj w ∧ Dis Sj Si) ∧
      ∀ (S' : Nat → Prop) (w' : World) (Q : Asn), Q.holds S' w' → Step Si S' w w' → ∃ S'', Apart w' (Ps.set i Q) S'' ∧ (∀ k, S'' k → S k ∨ S' k)
  | [], _, i, _, _, hi => by simp at hi
  | P :: Ps, S, 0, P', ⟨S1, S2, h1, h2, h3, h4⟩, hi => by
    obtain rfl : P = P' := by simpa using hi
    refine ⟨S1, h1, fun k hk => (h4 k).2 (.inl hk), fun j R hj hR => ?_, fun S' w' Q hQ hs => ⟨fun k => S' k ∨ S2 k, ⟨S', S2, hQ, h2.keep hs h3.symm, h3.grow h2.lt hs, fun k => Iff.rfl⟩, fun k hk => hk.elim .inr (fun h => .inl ((h4 k).2 (.inr h)))⟩⟩
    match j, hj with
    | j + 1, _ =>
      obtain ⟨Sj, g1, g2, _⟩ := h2.at j (by simpa using hR)
      exact ⟨Sj, g1, fun k hk hk' => h3 k hk' (g2 k hk)⟩
  | P :: Ps, S, i + 1, P', ⟨S1, S2, h1, h2, h3, h4⟩, hi => by
    obtain ⟨Si, g1, g2, g4, g3⟩ := h2.at i (by simpa using hi)
    refine ⟨Si, g1, fun k hk => (h4 k).2 (.inr (g2 k hk)), fun j R hj hR => ?_, fun S' w' Q hQ hs => ?_⟩
    · match j, hj with
      | 0, _ =>
        obtain rfl : P = R := by simpa using hR
        exact ⟨S1, h1, fun k hk hk' => h3 k hk (g2 k hk')⟩
      | j + 1, hj => exact g4 j R (by omega) (by simpa using hR)
    obtain ⟨S'', k1, k2⟩ := g3 S' w' Q hQ hs
    have hd : Dis S1 Si := fun k hk hk' => h3 k hk (g2 k hk')
    have hd' : Dis S1 S' := (hd.symm.grow (P.lt h1) hs).symm
    exact ⟨fun k => S1 k ∨ S'' k, ⟨S1, S'', P.keep h1 hs hd, k1, fun k hk hk' => (k2 k hk').elim (h3 k hk) (hd' k hk), fun k => Iff.rfl⟩, fun k hk => hk.elim (fun h => .inl ((h4 k).2 (.inl h))) (fun h => (k2 k h).imp (fun g => (h4 k).2 (.inr g)) id)⟩

/-- THE STATE OF A CALL: since w0 nothing below B has turned; these objects lie apart, from B on. -/
structure St (B : Nat) (w0 w : World) (Ps : List Asn) : Prop where
  below : Below B w0 w
  size : B ≤ w.heap.size
  own : ∃ S, Apart w Ps S ∧ ∀ k, S k → B ≤ k

theorem St.start (w : World) : St w.heap.size w w [] := ⟨Below.refl _ _, Nat.le_refl _, fun _ => False, fun _ h => h, fun _ h => h.elim⟩

section
variable {B : Nat} {w0 w w' : World} {Ps : List Asn}

theorem St.at (h : St B w0 w Ps) (i : Nat) {P : Asn} (hi : Ps[i]? = some P) :
    ∃ Si, P.holds Si w ∧ (∀ k, Si k → B ≤ k) ∧ ∀ (S' : Nat → Prop) (w' : World) (Q : Asn), Q.holds S' w' → Step Si S' w w' → St B w0 w' (Ps.set i Q) := by
  obtain ⟨hb, hs, S, ha, hB⟩ := h
  obtain ⟨Si, g1, g2, _, g3⟩ := ha.at i hi
  refine ⟨Si, g1, fun k hk => hB k (g2 k hk), fun S' w' Q hQ hst => ?_⟩
  obtain ⟨S'', k1, k2⟩ := g3 S' w' Q hQ hst
  exact ⟨hb.trans (hst.below hs (fun k hk => hB k (g2 k hk))), Nat.le_trans hs hst.size, S'', k1, fun k hk => (k2 k hk).elim (hB k) (fun g => (hst.new k g).elim (fun g => hB k (g2 k g)) (Nat.le_trans hs))⟩

/-- one of them, and another beside it -/
theorem St.at2 (h : St B w0 w Ps) (i j : Nat) (hij : j ≠ i) {P R : Asn} (hi : Ps[i]? = some P) (hj : Ps[j]? = some R) :
    ∃ Si Sj, P.holds Si w ∧ R.holds Sj w ∧ Dis Sj Si ∧ (∀ k, Si k → B ≤ k) ∧ ∀ (S' : Nat → Prop) (w' : World) (Q : Asn), Q.holds S' w' → Step Si S' w w' → St B w0 w' (Ps.set i Q) := by
  obtain ⟨hb, hs, S, ha, hB⟩ := h
  obtain ⟨Si, g1, g2, g4, g3⟩ := ha.at i hi
  obtain ⟨Sj, f1, f2⟩ := g4 j R hij hj
  refine ⟨Si, Sj, g1, f1, f2, fun k hk => hB k (g2 k hk), fun S' w' Q hQ hst => ?_⟩
  obtain ⟨S'', k1, k2⟩ := g3 S' w' Q hQ hst
  exact ⟨hb.trans (hst.below hs (fun k hk => hB k (g2 k hk))), Nat.le_trans hs hst.size, S'', k1, fun k hk => (k2 k hk).elim (hB k) (fun g => (hst.new k g).elim (fun g => hB k (g2 k g)) (Nat.le_trans hs))⟩

/-- one of them has turned, and something new is there -/
theorem St.more (h : St B w0 w Ps) (i : Nat) {P : Asn} (hi : Ps[i]? = some P) :
    ∃ Si, P.holds Si w ∧ ∀ (S' T' : Nat → Prop) (w' : World) (Q R : Asn), Q.holds S' w' → R.holds T' w' → Step Si S' w w' → (∀ k, T' k → w.heap.size ≤ k) → (∀ k, S' k → k < w.heap.size) → St B w0 w' (R :: Ps.set i Q) := by
  obtain ⟨hb, hs, S, ha, hB⟩ := h
  obtain ⟨Si, g1, g2, _, g3⟩ := ha.at i hi
  refine ⟨Si, g1, fun S' T' w' Q R hQ hR hst hT hS' => ?_⟩
  obtain ⟨S'', k1, k2⟩ := g3 S' w' Q hQ hst
  refine ⟨hb.trans (hst.below hs (fun k hk => hB k (g2 k hk))), Nat.le_trans hs hst.size, fun k => T' k ∨ S'' k, ⟨T', S'', hR, k1, fun k ht hk => ?_, fun k => Iff.rfl⟩, fun k hk => ?_⟩
  · have := hT k ht
    exact (k2 k hk).elim (fun g => by have := ha.lt k g; omega) (fun g => by have := hS' k g; omega)
  · exact hk.elim (fun g => Nat.le_trans hs (hT k g)) (fun g => (k2 k g).elim (hB k) (fun g => (hst.new k g).elim (fun g => hB k (g2 k g)) (Nat.le_trans hs)))

/-- something new -/
theorem St.new (h : St B w0 w Ps) {S' : Nat → Prop} (Q : Asn) (hQ : Q.holds S' w') (hst : Step (fun _ => False) S' w w') : St B w0 w' (Q :: Ps) := by
  obtain ⟨hb, hs, S, ha, hB⟩ := h
  refine ⟨hb.trans (hst.below hs (fun _ h => h.elim)), Nat.le_trans hs hst.size, fun k => S' k ∨ S k, ⟨S', S, hQ, ha.keep hst (fun _ _ h => h), fun k h1 h2 => (hst.new k h1).elim (fun h => h) (fun h => by have := ha.lt k h2; omega), fun k => Iff.rfl⟩, fun k hk => hk.elim (fun h => (hst.new k h).elim (fun h => h.elim) (Nat.le_trans hs)) (hB k)⟩

/-- nothing that is held has turned -/
theorem St.quiet (h : St B w0 w Ps) {T : Nat → Prop} (hst : Step (fun _ => False) T w w') : St B w0 w' Ps := by
  obtain ⟨hb, hs, S, ha, hB⟩ := h
  exact ⟨hb.trans (hst.below hs (fun _ h => h.elim)), Nat.le_trans hs hst.size, S, ha.keep hst (fun _ _ h => h), hB⟩

theorem St.alloc (h : St B w0 w Ps) (o : Obj) : St B w0 (w.alloc o) Ps := h.quiet ((Step.refl (fun _ => False) w).alloc o)
theorem St.drew (h : St B w0 w Ps) : St B w0 w.drew Ps := h.quiet ((Step.refl (fun _ => False) w).drew)
theorem St.drewN (h : St B w0 w Ps) (n : Nat) : St B w0 (w.drewN n) Ps := h.quiet ((Step.refl (fun _ => False) w).drewN n)

/-- something is let go -/
theorem Apart.drop {w : World} : ∀ {Ps : List Asn} {S : Nat → Prop} (n : Nat), Apart w Ps S → ∃ S', Apart w (Ps.drop n) S' ∧ ∀ k, S' k → S k
  | Ps, S, 0, h => ⟨S, by simpa using h, fun _ h => h⟩
  | [], S, n + 1, h => ⟨S, by simpa using h, fun _ h => h⟩
  | _ :: _, _, n + 1, ⟨_, _, _, h2, _, h4⟩ => by
    obtain ⟨S', g1, g2⟩ := h2.drop n
    exact ⟨S', by simpa using g1, fun k hk => (h4 k).2 (.inr (g2 k hk))⟩
theorem St.drop (h : St B w0 w Ps) (n : Nat) : St B w0 w (Ps.drop n) := by
  obtain ⟨hb, hs, S, ha, hB⟩ := h
  obtain ⟨S', g1, g2⟩ := ha.drop n
  exact ⟨hb, hs, S', g1, fun k hk => hB k (g2 k hk)⟩

end

/-- old memory reads as it did -/
theorem View.below {w w' : World} {B : Nat} {ao : Option Addr} {l : List UInt8} (h : View w (fun k => k < B) ao l) (g : Below B w w') : View w' (fun k => k < B) ao l := by
  rcases h with h | ⟨b, o, e, hS, hb, hc⟩
  · exact .inl h
  · exact .inr ⟨b, o, e, hS, Nat.lt_of_lt_of_le hb g.size, fun j hj => (World.cell?_of_block (w := w) (g.block b hS)).trans (hc j hj)⟩

theorem View.same {w w' : World} {B : Nat} {ao : Option Addr} {l : List UInt8} (h : View w (fun k => k < B) ao l) (g : ∀ k, k < B → w'.heap[k]? = w.heap[k]?) : View w' (fun k => k < B) ao l := by
  rcases h with h | ⟨b, o, e, hS, hb, hc⟩
  · exact .inl h
  · refine .inr ⟨b, o, e, hS, ?_, fun j hj => (World.cell?_of_block (w := w) (g b hS)).trans (hc j hj)⟩
    have := g b hS
    rw [Array.getElem?_eq_getElem hb] at this
    exact (Array.getElem?_eq_some_iff.1 this).1

/-- two worlds of one call -/
theorem Below.both {B : Nat} {W w w' : World} (h : Below B W w) (g : Below B W w') : ∀ k, k < B → w'.heap[k]? = w.heap[k]? := fun k hk => (g.block k hk).trans (h.block k hk).symm

theorem View.mono {w : World} {D D' : Nat → Prop} {ao : Option Addr} {l : List UInt8} (h : View w D ao l) (hd : ∀ k, D k → D' k) : View w D' ao l := by
  rcases h with h | ⟨b, o, e, hS, hb, hc⟩
  · exact .inl h
  · exact .inr ⟨b, o, e, hd b hS, hb, hc⟩

/-- a row as an object -/
def ARow (e : TypeId) (size : Nat) (v : Value) (n : Nat) (xs : List Value) : Asn where
  holds S w := Row w e size S v n xs
  keep h g hd := h.step g hd
  lt h := h.lt

/-- a block of one's own, known whole -/
def ABlk (b : Nat) (o : Obj) : Asn where
  holds S w := w.heap[b]? = some o ∧ ∀ k, S k ↔ k = b
  keep h g hd := ⟨(g.block _ (lt_of_block h.1) (hd _ ((h.2 _).2 rfl))).trans h.1, h.2⟩
  lt h k hk := by rw [(h.2 k).1 hk]; exact lt_of_block h.1

theorem St.block {B : Nat} {w0 w : World} {Ps : List Asn} (h : St B w0 w Ps) (i : Nat) {b : Nat} {o : Obj} (hi : Ps[i]? = some (ABlk b o)) : w.heap[b]? = some o := by
  obtain ⟨S, hS, _⟩ := h.at i hi
  exact hS.1

theorem St.box {B : Nat} {w0 w : World} {Ps : List Asn} (h : St B w0 w Ps) (o : Obj) : St B w0 (w.alloc o) (ABlk w.heap.size o :: Ps) :=
  h.new (S' := fun k => k = w.heap.size) (ABlk w.heap.size o) ⟨heap_alloc_new w o, fun _ => Iff.rfl⟩ (((Step.refl (fun _ => False) w).alloc o).to (fun k hk => Or.inr (Nat.le_of_eq hk.symm)))

end Go.Own
