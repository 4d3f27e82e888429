/- The landed Longest. -/
import Derived.Test.YthmnaofmpijbiaaMatO
import Derived.Test.YthmnaofmpijbiaaArrEq
namespace Go.Proofs.Ythmnaofmpijbiaa
open Go.RowKit Go.Own
namespace Mat
open Go.MatM Byt

theorem eql_head {p0 p1 p2 q0 q1 q2 : UInt8} (v : Bool) (hv : decide ([p0, p1, p2] = [q0, q1, q2]) = v) :
    ∀ (o : Oper) (x y : Tmp), o.op = .binOp .eql 49 (.tmp x) (.tmp y) 49 → ∀ (ρ : Operand → Value) (w : World), ρ (.tmp x) = hdV p0 p1 p2 → ρ (.tmp y) = hdV q0 q1 q2 →
      (execOp ρ o).run Try.prog w = .ok (.value (.bool v)) w := by
  intro o x y ho ρ w h0 h1
  have h := run_equalIn_ints (P := Try.prog) 9998 49 5 .u8 [(p0.toNat : Int), p1.toNat, p2.toNat] [(q0.toNat : Int), q1.toNat, q2.toNat] rfl Try.underlying49 Try.underlying5 (fun w => by kernel_rfl) (fun w => by kernel_rfl) w
  have e : decide ([(p0.toNat : Int), p1.toNat, p2.toNat] = [(q0.toNat : Int), q1.toNat, q2.toNat]) = v := by
    rw [← hv]
    apply decide_eq_decide.2
    simp [← UInt8.toNat_inj]
    omega
  rw [e] at h
  have h' : (Op.equalIn 10000 49 (.agg #[.int .u8 (p0.toNat : Int), .int .u8 p1.toNat, .int .u8 p2.toNat]) (.agg #[.int .u8 (q0.toNat : Int), .int .u8 q1.toNat, .int .u8 q2.toNat])).run Try.prog w = .ok v w := h
  simp only [hdV, byteV] at h0 h1
  simp [execOp, ho, h0, h1, go_sem, h']

theorem longI_in (l : Bs) (t : Nat) : longI l (t : Int) = longest l t := by
  unfold longI
  by_cases h : t < l.length
  · rw [if_pos (by omega)]; rfl
  · rw [if_neg (by omega), longest_short l t (by omega)]
theorem longI_out (l : Bs) (t : Int) (h : ¬ (0 ≤ t ∧ t + 3 ≤ (l.length : Int))) : longI l t = (0, 0) := by
  by_cases h0 : 0 ≤ t
  · obtain ⟨t, rfl⟩ := Int.eq_ofNat_of_zero_le h0
    have e : longI l (t : Int) = longest l t := longI_in l t
    show longI l (t : Int) = (0, 0)
    rw [e]
    exact longest_short l t (by omega)
  · unfold longI; rw [if_neg (by omega)]

theorem choose_in {w wr : World} (hw : Below w.heap.size w wr) {ao : Option Addr} {len cap : Nat} {l : Bs} (HG : Given w ao len cap l) (t : Nat) (v : Value) (hb : len ≤ 1000000) (ht : t + 3 ≤ len) (hs : Slc wr v (near l t)) :
    Calls Try.prog 29 #[.slice ao len cap, .int .i64 (t : Int), v] wr fun e w' => e = .returned (.agg #[.int .i64 ((longest l t).1 : Int), .int .i64 ((longest l t).2 : Int)]) ∧ Below wr.heap.size wr w' := by
  have h := choose_any ao len cap t l v (near l t) wr hs (by have := near_len l t; omega) (fun k hk => near_lt l t k hk) (by omega) (Lib.hid (fun wx hwx k hk => by
    have hg := HG.later (hw.trans (hwx.mono hw.size))
    have h := common_any ao len cap l (k : Int) (t : Int) wx hg.view hg.size hb
    have e : comI l (k : Int) (t : Int) = com l k t := by unfold comI; rw [if_neg (by have := HG.size; omega)]; rfl
    rw [e] at h
    exact h))
  rw [pick_near l t (by have := HG.size; omega)] at h
  exact h

end Mat
end Go.Proofs.Ythmnaofmpijbiaa
