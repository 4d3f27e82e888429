/- A map of one's own, of plain values. -/
import Derived.Test.YtepllhfofhehaaaHeap
import Derived.Maps.Own
import Derived.Maps.Views
import Derived.WideKeyArr
import Derived.Carry
namespace Go.Own
open Go.RowKit Go.Maps

open Classical in
noncomputable def putK {α : Type} (g : Lit → α) (kl : Lit) (x : α) : Lit → α := fun l => if l = kl then x else g l
theorem putK_same {α : Type} {g : Lit → α} {kl : Lit} {x : α} : putK g kl x kl = x := by unfold putK; rw [if_pos rfl]
theorem putK_other {α : Type} {g : Lit → α} {kl l : Lit} {x : α} (h : l ≠ kl) : putK g kl x l = g l := by unfold putK; rw [if_neg h]
def rawV : Value → Option (DataW Value × List MemPlace) := fun v => some (.held v, [])
/-- block b is a map of at most n entries; g: the value at a key; z: where there is none -/
def AMap (P : Program) (kt : TypeId) (z : Value) (b n : Nat) (g : Lit → Value) : Asn where
  holds S w := (∃ D : DataW Value, w.ownsMap P kt rawV b n D ∧ ∀ kl, D.atKey kl (.held z) = .held (g kl)) ∧ ∀ k, S k ↔ k = b
  keep h gs hd := by
    obtain ⟨⟨D, ⟨es, clock, hb, r⟩, h1⟩, h5⟩ := h
    exact ⟨⟨D, ⟨es, clock, (gs.block _ (lt_of_block hb) (hd _ ((h5 _).2 rfl))).trans hb, r⟩, h1⟩, h5⟩
  lt h k hk := by
    obtain ⟨⟨D, hm, h1⟩, h5⟩ := h
    rw [(h5 k).1 hk]
    exact hm.lt
section
variable {P : Program} {kt mt vt : TypeId} {z : Value} {B : Nat} {w0 w : World} {Ps : List Asn} {b n : Nat} {g : Lit → Value}
theorem St.mapMake (H : St B w0 w Ps) : ∃ w' b, (Instr.makeMap mt none).run P w = .ok (.map (some b)) w' ∧ St B w0 w' (AMap P kt z b 0 (fun _ => z) :: Ps) := by
  refine ⟨_, w.heap.size, run_makeMap mt w, H.new (S' := fun k => k = w.heap.size) (AMap P kt z _ 0 _) ⟨⟨.map [], World.ownsMap_made w _ _ _, fun kl => rfl⟩, fun k => Iff.rfl⟩ (((Step.refl (fun _ => False) w).alloc (.map #[] 0)).to (fun k hk => .inr (Nat.le_of_eq hk.symm)))⟩
theorem St.mapLook (H : St B w0 w Ps) (i : Nat) (hi : Ps[i]? = some (AMap P kt z b n g)) (K : Keyed P kt) (hmt : P.underlying mt = some (.map kt vt)) (hz : ∀ w, (zeroValue vt).run P w = .ok z w) {kv : Value} {kl : Lit} (hk : keyOf P kt kv = some kl) :
    (Instr.lookup mt (.map (some b)) kv false).run P w = .ok (g kl) w := by
  obtain ⟨S, ⟨⟨D, hm, h1⟩, _⟩, _⟩ := H.at i hi
  obtain ⟨v, ps, hrun, hv⟩ := hm.lookup K hmt (hz w) (zd := .held z) (zp := []) rfl hk
  rw [h1] at hv
  simp only [rawV, Option.some.injEq, Prod.mk.injEq, DataW.held.injEq] at hv
  rw [hrun, hv.1]
theorem St.mapPut (H : St B w0 w Ps) (i : Nat) (hi : Ps[i]? = some (AMap P kt z b n g)) (K : Keyed P kt) (hmt : P.underlying mt = some (.map kt vt)) (hn : n < 1000000000) {kv : Value} {kl : Lit} (hk : keyOf P kt kv = some kl) (v : Value) :
    ∃ w', (Instr.mapUpdate mt (.map (some b)) kv v).run P w = .ok () w' ∧ St B w0 w' (Ps.set i (AMap P kt z b (n + 1) (putK g kl v))) := by
  obtain ⟨S, ⟨⟨D, hm, h1⟩, h5⟩, _, put⟩ := H.at i hi
  obtain ⟨w2, hrun2, hm2, g2⟩ := hm.update K hmt (by unfold maxLen; omega) hk (val := v) (d := .held v) (ps := []) rfl
  have hD : IsMap D := by obtain ⟨es, clock, _, _, _, hD⟩ := hm; exact ⟨_, hD⟩
  refine ⟨w2, hrun2, put (fun k => k = b) w2 (AMap P kt z b (n + 1) _) ⟨⟨_, hm2, fun l => ?_⟩, fun k => Iff.rfl⟩ ?_⟩
  · by_cases hl : l = kl
    · subst hl
      rw [putK_same]
      exact atKey_put_same hD (K.key hk) _ _
    · rw [putK_other hl, atKey_put_other hl]
      exact h1 l
  · refine ⟨g2.os, g2.tape, g2.output, g2.size, fun k hk hn => g2.block k hk (fun e => hn ((h5 k).2 (by cases e; rfl))), fun k hk => .inl ((h5 k).2 hk)⟩
end
/-- a look-up, as an operation -/
theorem look_exec {P : Program} {o : Oper} {x y : Tmp} {mt : TypeId} (ho : o.op = .lookup mt (.tmp x) (.tmp y) false) {m kv v : Value} {w : World} (hrun : (Instr.lookup mt m kv false).run P w = .ok v w) (ρ : Operand → Value) (h0 : ρ (.tmp x) = m) (h1 : ρ (.tmp y) = kv) : (execOp ρ o).run P w = .ok (.value v) w := by
  simp [execOp, ho, h0, h1, hrun, go_sem]
end Go.Own
