/- A chain in a drawn region, more rules: any operation of the chain; a read that comes ahead of the m-th of the chain. -/
import Derived.Test.YtefbcoakjdjkgaaLaxG
namespace Go.Own
open Go.RowKit
section
variable {P : Program} {ops : Array Oper} {E : List Nat} {C : Nat → World → Prop} {Q : Act → World → Prop} {ds : List Deferred} {k : Nat} {o : Oper} {rest : List Oper} {fs : List Value}
/-- the m-th of the chain waits for operation k -/
def aheadB (ops : Array Oper) (E : List Nat) (k m : Nat) : Bool := decide (m < E.length) && waitsGB ops 30 (E.getD m 0) k
theorem chain_most (hch : chainB ops E = true) {L : Nat → Bool} {m k : Nat} {o : Oper} (hb : aheadB ops E k m = true) (hc : Comes ops .any k o L) : (E.filter L).length ≤ m := by
  unfold aheadB at hb
  simp only [Bool.and_eq_true, decide_eq_true_eq] at hb
  obtain ⟨hm, hb⟩ := hb
  have hno : ∀ i, m ≤ i → i < E.length → L (E.getD i 0) = false := by
    intro i hi hil
    by_cases h : L (E.getD i 0) = true
    · have h2 := chain_down hch hc.closed m (i - m) (by omega) (by rw [show m + (i - m) = i by omega]; exact h)
      have h3 := waitsGB_sound hc.closed 30 _ _ hb h2
      rw [hc.not] at h3
      cases h3
    · simpa using h
  have e2 : E.filter L = (E.take m).filter L ++ (E.drop m).filter L := by
    conv => lhs; rw [← List.take_append_drop m E]
    rw [List.filter_append]
  have e1 : (E.drop m).filter L = [] := by
    apply List.filter_eq_nil_iff.2
    intro x hx
    obtain ⟨i, hi, rfl⟩ := List.mem_iff_getElem.1 hx
    rw [List.length_drop] at hi
    have := hno (m + i) (by omega) (by omega)
    rw [List.getD_eq_getElem?_getD, List.getElem?_eq_getElem (by omega)] at this
    rw [List.getElem_drop]
    simpa using this
  rw [e2, e1, List.append_nil]
  exact Nat.le_trans (List.length_filter_le _ _) (by rw [List.length_take]; omega)
/-- a read ahead of the m-th of the chain -/
theorem wpG_runU (m : Nat) (v : Value) (hch : chainB ops E = true) (hb : aheadB ops E k m = true) (hE : E.contains k = false) (hs : notSelect o = true) (hw : wantedL ops fs o = true) (hrun : ∀ j w, j ≤ m → C j w → (execOp (ev fs) o).run P w = .ok (.value v) w) (c : wpG P ops C E Q ds (k + 1) rest (setL fs o.dst v)) : wpG P ops C E Q ds k (o :: rest) fs :=
  ⟨_, .val v (wantedL_eq.trans hw) (fun L a1 w hC hcm ht K Q' hK => by
    have e : execOp a1.eval o = execOp (mkA fs ds).eval o := execOp_congr o (fun cs b h => by simp [notSelect, h] at hs) fun x hx => eval_looks ht x hx
    unfold Oper.wp
    rw [e, mkA_evalF, hrun _ w (chain_most hch hb hcm) hC]
    exact hK _ (by unfold CLp at *; rw [filter_upd_not hE]; exact hC)), by rw [mkA_put]; exact c⟩
theorem wpG_runU1 {x : Operand} (m : Nat) (vx v : Value) (hch : chainB ops E = true) (hb : aheadB ops E k m = true) (hE : E.contains k = false) (hx : ev fs x = vx) (hs : notSelect o = true) (hw : wantedL ops fs o = true) (hrun : ∀ j w (ρ : Operand → Value), j ≤ m → C j w → ρ x = vx → (∀ c, ρ (.const c) = c) → (execOp ρ o).run P w = .ok (.value v) w) (c : wpG P ops C E Q ds (k + 1) rest (setL fs o.dst v)) : wpG P ops C E Q ds k (o :: rest) fs :=
  wpG_runU m v hch hb hE hs hw (fun j w hj hC => hrun j w _ hj hC hx fun _ => rfl) c
/-- what an operation leaves in its slot -/
def leaves (v : Value) (n : Next) : Prop := n = .value v ∨ (n = .skip ∧ v = undef)
/-- operation number j of the chain -/
theorem wpG_op (j : Nat) (v : Value) (n : Next) (hn : leaves v n) (hch : chainB ops E = true) (hk : ops[k]? = some o) (hj : E[j]? = some k) (hs : notSelect o = true) (hw : wantedL ops fs o = true)
    (hrun : ∀ w, C j w → ∃ w', (execOp (ev fs) o).run P w = .ok n w' ∧ C (j + 1) w') (c : wpG P ops C E Q ds (k + 1) rest (setL fs o.dst v)) : wpG P ops C E Q ds k (o :: rest) fs :=
  ⟨_, .val v (wantedL_eq.trans hw) (fun L a1 w hC hcm ht K Q' hK => by
    have e : execOp a1.eval o = execOp (mkA fs ds).eval o := execOp_congr o (fun cs b h => by simp [notSelect, h] at hs) fun x hx => eval_looks ht x hx
    obtain ⟨p1, p2⟩ := chain_phase hch hj hk hcm
    unfold CLp at hC
    rw [p1] at hC
    obtain ⟨w', hr, hC'⟩ := hrun w hC
    unfold Oper.wp
    rw [e, mkA_evalF, hr]
    have hfin := hK w' (by unfold CLp; rw [p2]; exact hC')
    rcases hn with rfl | ⟨rfl, rfl⟩
    · exact hfin
    · exact hfin), by rw [mkA_put]; exact c⟩
end
end Go.Own
