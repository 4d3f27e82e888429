/- A slot that is not known, made of another that is not known (a slice of new bytes ..); b[:k], b[k:] of an array by its pointer. -/
import Derived.Test.YtepllhfofhehaaaGiv
import Derived.Test.YtepllhfofhehaaaLax
namespace Go.Proofs.Ytepllhfofhehaaa
open Go.RowKit Go.Own
namespace Byt
variable {P : Program} {ops : Array Oper} {rest : List Oper} {o : Oper} {C : World → Prop} {Q : Act → World → Prop} {I : Lx} {fs : List Value} {ds : List Deferred}

theorem wpT_seeT {a : Act} {t d : Tmp} {R : Ty} (R' : Ty) (hd : o.dst = some d) (hx : I.lookup t = some R) (hm : (Operand.tmp t) ∈ o.op.operands) (hs : notSelect o = true) (hl : (o.op.operands.toList.all fun x => known I x || isTmp t x) = true) (hg : guardKnown ops o I = true) (hw : Region.wanted o (yielded ops a.tmps) = true)
    (hrun : ∀ (u : Value) w, C w → R.holds u w → ∀ ρ : Operand → Value, ρ (.tmp t) = u → (∀ x, known I x = true → ρ x = a.eval x) → ∃ v w', (execOp ρ o).run P w = .ok (.value v) w' ∧ R'.holds v w' ∧ Below w.heap.size w w') (k : wpT P ops C Q rest ((d, R') :: I) a) : wpT P ops C Q (o :: rest) I a :=
  ⟨_, _, .ty d R' hd hg hw (fun a1 w hC ht K Q' hK => by
    have h : slotIs I a t (a1.tmps.getD t undef) w := ht t (looks_of_operand hm rfl)
    unfold slotIs at h
    rw [hx] at h
    have e : execOp a1.eval o = execOp (fun x => if isTmp t x = true then a1.tmps.getD t undef else a.eval x) o := execOp_congr o (fun cs b h => by simp [notSelect, h] at hs) fun x hxm => by
      by_cases hxt : isTmp t x = true
      · rw [if_pos hxt, isTmp_eq hxt]; rfl
      · rw [if_neg hxt]
        simp only [List.all_eq_true] at hl
        have h1 := hl x (by simpa using hxm)
        have h2 : known I x = true := by simpa [hxt] using h1
        exact known_eval h2 hxm ht
    obtain ⟨v, w', h1, h3, h2⟩ := hrun _ w hC h (fun x => if isTmp t x = true then a1.tmps.getD t undef else a.eval x) (by rw [if_pos (isTmp_self t)]) (fun x hk => by
      by_cases hxt : isTmp t x = true
      · rw [isTmp_eq hxt] at hk; simp [known, hx] at hk
      · rw [if_neg hxt])
    unfold Oper.wp
    rw [e, h1]
    exact hK _ _ h3 h2), k⟩
theorem wpL_seeT {t d : Tmp} {R : Ty} (R' : Ty) (hd : o.dst = some d) (hx : I.lookup t = some R) (hm : (Operand.tmp t) ∈ o.op.operands) (hs : notSelect o = true) (hl : (o.op.operands.toList.all fun x => known I x || isTmp t x) = true) (hg : guardKnown ops o I = true) (hw : wantedL ops fs o = true)
    (hrun : ∀ (u : Value) w, C w → R.holds u w → ∀ ρ : Operand → Value, ρ (.tmp t) = u → (∀ x, known I x = true → ρ x = ev fs x) → ∃ v w', (execOp ρ o).run P w = .ok (.value v) w' ∧ R'.holds v w' ∧ Below w.heap.size w w') (k : wpL P ops C Q ds rest ((d, R') :: I) fs) : wpL P ops C Q ds (o :: rest) I fs :=
  wpT_seeT R' hd hx hm hs hl hg (wantedL_eq.trans hw) (fun u w h1 h2 ρ h3 h4 => hrun u w h1 h2 ρ h3 (fun x hx => (h4 x hx).trans (mkA_eval x))) k
/-- bytes that may be read, in a slot -/
def tyR (l : List UInt8) : Ty := ⟨fun v w => ∃ ao c, v = .slice ao l.length c ∧ Given w ao l.length c l, fun ⟨ao, c, h1, h2⟩ g => ⟨ao, c, h1, h2.later g⟩⟩
/-- x[k:] of such bytes -/
theorem cut_tyR {o : Oper} {x y : Tmp} (ho : o.op = .slice 32 (.tmp x) (some (.tmp y)) none none) {l : List UInt8} {k : Nat} (hk : k ≤ l.length) {u : Value} {w : World} (hu : (tyR l).holds u w) (ρ : Operand → Value) (h0 : ρ (.tmp x) = u) (h1 : ρ (.tmp y) = .int .i64 (k : Int)) :
    ∃ v w', (execOp ρ o).run Try.prog w = .ok (.value v) w' ∧ (tyR (l.drop k)).holds v w' ∧ Below w.heap.size w w' := by
  obtain ⟨ao, c, rfl, g⟩ := hu
  obtain ⟨a', c', hrun, cut⟩ := cutFrom (l := l) (m := l.length) (cap := c) (ao := ao) k rfl hk g.room.1 g.room.2 g.nil
  refine ⟨_, w, hrun o (.tmp x) (.tmp y) ho ρ w h0 h1, ⟨a', c', by rw [List.length_drop], ?_⟩, Below.refl _ _⟩
  obtain ⟨c1, c2, c3, c4⟩ := cut
  exact ⟨c1 _ _ g.view, rfl, by rw [List.length_drop]; exact c3, c4⟩
/-- b[:k] of an array of bytes, by its pointer -/
theorem arr_to {o : Oper} {x y : Tmp} (ho : o.op = .slice 52 (.tmp x) none (some (.tmp y)) none) {b k : Nat} (hk : k ≤ 128) (ρ : Operand → Value) (w : World) (h0 : ρ (.tmp x) = .pointer (some ⟨b, 0, none⟩)) (h1 : ρ (.tmp y) = .int .i64 (k : Int)) :
    (execOp ρ o).run Try.prog w = .ok (.value (.slice (some ⟨b, 0, none⟩) k 128)) w := by
  have hk' : (k : Int) ≤ 128 := by omega
  have hn : ¬ (128 : Int) < (k : Int) := by omega
  simp [execOp, ho, h0, h1, go_sem, hk', hn, hk]
end Byt
end Go.Proofs.Ytepllhfofhehaaa
