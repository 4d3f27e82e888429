/- The landed record: fieldsOf, used, Right. -/
import Derived.Test.YtefbcoakjdjkgaaRecRa
import Derived.Laws.BitsAllLaws
namespace Go.Proofs.Ytefbcoakjdjkgaa
open Go.RowKit Go.Own
namespace Rec
open Go.RecM Byt
/-- the fields that a kind has, a bit each -/
def fieldsN (k : Nat) : Nat := if k = 1 then 15 else if k = 2 then 3 else if k = 3 then 2 else if k = 4 then 12 else 0
theorem fieldsN_lt (k : Nat) : fieldsN k < 16 := by
  unfold fieldsN
  repeat (split; omega)
  omega
theorem fields_any (k : Nat) (hk : k < 256) (w : World) : Calls Try.prog 21 #[.int .u8 (k : Int)] w fun e w' => e = .returned (.int .u8 (fieldsN k : Int)) ∧ w = w' := by
  by_cases k1 : k = 1
  · subst k1
    go_enter Try.func21, Try.ntmps21
    go_wp2
    go_ret
    exact ⟨rfl, rfl⟩
  by_cases k2 : k = 2
  · subst k2
    go_enter Try.func21, Try.ntmps21
    go_wp2
    go_ret
    exact ⟨rfl, rfl⟩
  by_cases k3 : k = 3
  · subst k3
    go_enter Try.func21, Try.ntmps21
    go_wp2
    go_ret
    exact ⟨rfl, rfl⟩
  by_cases k4 : k = 4
  · subst k4
    go_enter Try.func21, Try.ntmps21
    go_wp2
    go_ret
    exact ⟨rfl, rfl⟩
  have hf : fieldsN k = 0 := by unfold fieldsN; rw [if_neg k1, if_neg k2, if_neg k3, if_neg k4]
  rw [hf]
  have e1 : ((k : Int) == 1) = false := by simp; omega
  have e2 : ((k : Int) == 2) = false := by simp; omega
  have e3 : ((k : Int) == 3) = false := by simp; omega
  have e4 : ((k : Int) == 4) = false := by simp; omega
  clear hf k1 k2 k3 k4 hk
  go_enter Try.func21, Try.ntmps21
  go_wp2
  go_ret
  exact ⟨rfl, rfl⟩
/-- the fields of a note that are not zero -/
def usedB (a s z l : Bool) : Nat := (if a then 1 else 0) + (if s then 2 else 0) + (if z then 4 else 0) + (if l then 8 else 0)
def usedN (n : Nte) : Nat := usedB (decide (n.addr ≠ 0)) (decide (n.seq ≠ 0)) (!(decide (n.sum = zsum) && decide (n.kn = 0))) (decide (0 < n.data.length))
theorem usedB_lt : ∀ a s z l : Bool, usedB a s z l < 16 := by decide
theorem usedN_lt (n : Nte) : usedN n < 16 := usedB_lt _ _ _ _
theorem neq_key {o : Oper} {x y : Tmp} (ho : o.op = .binOp .neq 27 (.tmp x) (.tmp y) 27) {a b : RecM.Bs} {m n : Nat} (ha : a.length = 32) (hb : b.length = 32) {v : Bool} (hv : (decide (a = b) && decide (m = n)) = v) (ρ : Operand → Value) (w : World)
    (h0 : ρ (.tmp x) = .agg (keyC a m).toArray) (h1 : ρ (.tmp y) = .agg (keyC b n).toArray) : (execOp ρ o).run Try.prog w = .ok (.value (.bool (!v))) w := by
  have h' := run_eq_key a b m n ha hb w
  rw [hv] at h'
  have hm : Try.prog.eqGuardType Try.prog.depth 27 = false := by kernel_rfl
  have hg := run_eqGuard_agg (P := Try.prog) w .neq 27 (.tmp x) (.tmp y) (keyC a m).toArray (keyC b n).toArray hm
  have hb := run_neq_struct (P := Try.prog) w 27 (keyC a m).toArray (keyC b n).toArray
  rw [h'] at hb
  unfold execOp
  simp only [ho, h0, h1, Sem.run_bind, hg, Result.andThen_ok, hb, Sem.run_pure]
set_option maxHeartbeats 3200000 in
theorem used_any (n : Nte) (hs : n.sum.length = 32) (ao : Option Addr) (len cap : Nat) (hl : n.data.length = len) (hb : len ≤ 1000000) (w : World) :
    Calls Try.prog 26 #[.agg (ntC n (.slice ao len cap)).toArray] w fun e w' => e = .returned (.int .u8 (usedN n : Int)) ∧ Below w.heap.size w w' := by
  obtain ⟨cs, hcs⟩ : ∃ cs, cs = ntC n (.slice ao len cap) := ⟨_, rfl⟩
  rw [← hcs]
  have hbox := (Own.St.start w).boxV 30 cs
  have cc : ∀ j v, cs[j]? = some v → (w.alloc (.cells cs.toArray 30)).cell? ⟨w.heap.size, j, none⟩ = some v := fun j v h => (hbox.cellV 0 rfl j h).1
  have c1 := cc 1 (.int .u32 (n.addr : Int)) (by rw [hcs]; rfl)
  have c2 := cc 2 (.int .u64 (n.seq : Int)) (by rw [hcs]; rfl)
  have c36 := cc 36 (.slice ao len cap) (by rw [hcs]; exact ntC_data n _ hs)
  have RK : Hid ((w.alloc (.cells cs.toArray 30)).rangeAt w.heap.size 3 (keyC n.sum n.kn)) := fun j v hv => cc (3 + j) v (by rw [hcs]; exact ntC_key n _ j v hv)
  have HB := Lib.hid hbox.below
  have KL := Lib.hid (keyC_len n.sum n.kn hs)
  have HS := Lib.hid hs
  have HZ : Hid (zsum.length = 32) := by show zsum.length = 32; simp [zsum]
  obtain ⟨r, hr⟩ : ∃ r, r = usedN n := ⟨_, rfl⟩
  rw [← hr]
  unfold usedN at hr
  rw [hl] at hr
  obtain ⟨ke, hke⟩ : ∃ b, (decide (n.sum = zsum) && decide (n.kn = 0)) = b := ⟨_, rfl⟩
  rw [hke] at hr
  have KE := Lib.hid hke
  obtain ⟨ad, had⟩ : ∃ a, a = n.addr := ⟨_, rfl⟩
  rw [← had] at c1 hr
  obtain ⟨sq, hsq⟩ : ∃ a, a = n.seq := ⟨_, rfl⟩
  rw [← hsq] at c2 hr
  clear hke cc hbox hcs had hsq hl
  by_cases ha : ad = 0 <;> by_cases hq : sq = 0 <;> by_cases hz : 0 < (len : Int) <;> cases ke
  all_goals
    (try subst ha)
    (try subst hq)
    have hz' : decide (0 < len) = decide (0 < (len : Int)) := by apply decide_eq_decide.2; omega
    rw [hz'] at hr
    first | simp only [hz, decide_true, decide_false, Bool.not_true, Bool.not_false, usedB, if_true, if_false, Bool.false_eq_true, ne_eq, not_true_eq_false, not_false_eq_true, ha, hq, Nat.reduceAdd] at hr | simp only [hz, decide_true, decide_false, Bool.not_true, Bool.not_false, usedB, if_true, if_false, Bool.false_eq_true, ne_eq, not_true_eq_false, not_false_eq_true, ha, Nat.reduceAdd] at hr | simp only [hz, decide_true, decide_false, Bool.not_true, Bool.not_false, usedB, if_true, if_false, Bool.false_eq_true, ne_eq, not_true_eq_false, not_false_eq_true, hq, Nat.reduceAdd] at hr | simp only [hz, decide_true, decide_false, Bool.not_true, Bool.not_false, usedB, if_true, if_false, Bool.false_eq_true, ne_eq, not_true_eq_false, not_false_eq_true, Nat.reduceAdd] at hr
    subst hr
    clear hz'
    go_enter Try.func26, Try.ntmps26
    go_wp2_with (first
      | (refine wpList_val rfl (load_key _ KL.out rfl _ RK.out rfl) ?_)
      | (refine wpList_val rfl (zero_key rfl _ _) ?_)
      | (refine wpList_val rfl (neq_key rfl HS.out HZ.out KE.out _ _ rfl rfl) ?_))
    go_ret
    exact ⟨rfl, HB.out⟩
end Rec
end Go.Proofs.Ytefbcoakjdjkgaa
