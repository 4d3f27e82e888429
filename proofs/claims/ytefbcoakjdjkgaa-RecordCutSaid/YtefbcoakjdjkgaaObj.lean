/- Objects made of objects: an object's parts are opened among what a call holds, and closed again; the order does not count. -/
import Derived.Test.YtefbcoakjdjkgaaHeap
namespace Go.Own
open Go.RowKit

theorem Apart.iff {w : World} : ∀ {Ps : List Asn} {S T : Nat → Prop}, Apart w Ps S → (∀ k, S k ↔ T k) → Apart w Ps T
  | [], _, _, h, e => fun k hk => h k ((e k).2 hk)
  | _ :: _, _, _, ⟨S1, S2, h1, h2, h3, h4⟩, e => ⟨S1, S2, h1, h2, h3, fun k => (e k).symm.trans (h4 k)⟩
theorem Apart.append {w : World} : ∀ {Ps Qs : List Asn} {S T : Nat → Prop}, Apart w Ps S → Apart w Qs T → Dis S T → Apart w (Ps ++ Qs) (fun k => S k ∨ T k)
  | [], Qs, S, T, h, g, _ => g.iff fun k => ⟨.inr, fun x => x.elim (fun y => (h k y).elim) id⟩
  | P :: Ps, Qs, S, T, ⟨S1, S2, h1, h2, h3, h4⟩, g, hd => ⟨S1, fun k => S2 k ∨ T k, h1, Apart.append h2 g (fun k hk => hd k ((h4 k).2 (.inr hk))), fun k hk hk' => hk'.elim (h3 k hk) (hd k ((h4 k).2 (.inl hk))), fun k => by show (S k ∨ T k) ↔ (S1 k ∨ S2 k ∨ T k); rw [h4 k, or_assoc]⟩
theorem Apart.split {w : World} : ∀ {Ps Qs : List Asn} {S : Nat → Prop}, Apart w (Ps ++ Qs) S → ∃ S1 S2, Apart w Ps S1 ∧ Apart w Qs S2 ∧ Dis S1 S2 ∧ ∀ k, S k ↔ (S1 k ∨ S2 k)
  | [], Qs, S, h => ⟨fun _ => False, S, fun _ h => h, h, fun _ h => h.elim, fun k => ⟨.inr, fun x => x.elim (fun y => y.elim) id⟩⟩
  | P :: Ps, Qs, S, ⟨S1, S2, h1, h2, h3, h4⟩ => by
    obtain ⟨T1, T2, g1, g2, g3, g4⟩ := Apart.split h2
    exact ⟨fun k => S1 k ∨ T1 k, T2, ⟨S1, T1, h1, g1, fun k hk hk' => h3 k hk ((g4 k).2 (.inl hk')), fun k => Iff.rfl⟩, g2, fun k hk hk' => hk.elim (fun x => h3 k x ((g4 k).2 (.inr hk'))) (fun x => g3 k x hk'), fun k => by rw [h4 k, g4 k, or_assoc]⟩

theorem erase_perm {α : Type _} : ∀ (l : List α) (i : Nat) (h : i < l.length), (l[i] :: l.eraseIdx i).Perm l
  | [], i, h => by simp at h
  | x :: l, 0, _ => List.Perm.refl _
  | x :: l, i + 1, h => by
    have h' : i < l.length := by simpa using h
    exact ((List.Perm.swap x l[i] (l.eraseIdx i))).trans ((erase_perm l i h').cons x)
theorem Apart.perm {w : World} {Ps Qs : List Asn} (h : Ps.Perm Qs) : ∀ {S : Nat → Prop}, Apart w Ps S → Apart w Qs S := by
  induction h with
  | nil => exact fun h => h
  | cons x _ ih => rintro S ⟨S1, S2, h1, h2, h3, h4⟩; exact ⟨S1, S2, h1, ih h2, h3, h4⟩
  | swap x y l =>
    rintro S ⟨S1, S2, h1, ⟨T1, T2, g1, g2, g3, g4⟩, h3, h4⟩
    refine ⟨T1, fun k => S1 k ∨ T2 k, g1, ⟨S1, T2, h1, g2, fun k a b => h3 k a ((g4 k).2 (.inr b)), fun k => Iff.rfl⟩, fun k a b => b.elim (fun c => h3 k c ((g4 k).2 (.inl a))) (g3 k a), fun k => ?_⟩
    rw [h4 k, g4 k]
    constructor
    · rintro (a | a | a)
      · exact .inr (.inl a)
      · exact .inl a
      · exact .inr (.inr a)
    · rintro (a | a | a)
      · exact .inr (.inl a)
      · exact .inl a
      · exact .inr (.inr a)
  | trans _ _ ih1 ih2 => exact fun h => ih2 (ih1 h)

/-- an object made of objects -/
def AJoin (Qs : List Asn) : Asn := ⟨fun S w => Apart w Qs S, fun h g hd => h.keep g hd, fun h => h.lt⟩

section
variable {B : Nat} {w0 w w' : World} {Ps Qs : List Asn}
theorem St.perm (h : St B w0 w Ps) (e : Ps.Perm Qs) : St B w0 w Qs := by
  obtain ⟨hb, hs, S, ha, hB⟩ := h
  exact ⟨hb, hs, S, ha.perm e, hB⟩
theorem St.openJ (h : St B w0 w (AJoin Qs :: Ps)) : St B w0 w (Qs ++ Ps) := by
  obtain ⟨hb, hs, S, ⟨S1, S2, h1, h2, h3, h4⟩, hB⟩ := h
  exact ⟨hb, hs, _, Apart.append h1 h2 h3, fun k hk => hB k ((h4 k).2 hk)⟩
theorem St.closeJ (h : St B w0 w (Qs ++ Ps)) : St B w0 w (AJoin Qs :: Ps) := by
  obtain ⟨hb, hs, S, ha, hB⟩ := h
  obtain ⟨S1, S2, h1, h2, h3, h4⟩ := ha.split
  exact ⟨hb, hs, S, ⟨S1, S2, h1, h2, h3, h4⟩, hB⟩
/-- one of them to the front, and back -/
theorem St.front (h : St B w0 w Ps) (i : Nat) {P : Asn} (hi : Ps[i]? = some P) : St B w0 w (P :: Ps.eraseIdx i) := by
  obtain ⟨hl, rfl⟩ := List.getElem?_eq_some_iff.1 hi
  exact h.perm (erase_perm Ps i hl).symm
theorem St.back {Q : Asn} (i : Nat) (hi : i < Ps.length) (h : St B w0 w (Q :: Ps.eraseIdx i)) : St B w0 w (Ps.set i Q) := by
  have hl : i < (Ps.set i Q).length := by simpa using hi
  have e := erase_perm (Ps.set i Q) i hl
  rw [List.getElem_set_self, List.eraseIdx_set_eq] at e
  exact h.perm e
/-- what a call does at the front it does anywhere -/
theorem St.lift {P Q : Asn} (i : Nat) (hi : Ps[i]? = some P) (h : St B w0 w Ps) : St B w0 w (P :: Ps.eraseIdx i) ∧ (∀ w', St B w0 w' (Q :: Ps.eraseIdx i) → St B w0 w' (Ps.set i Q)) :=
  ⟨h.front i hi, fun _ g => g.back i (List.getElem?_eq_some_iff.1 hi).1⟩
end
end Go.Own
