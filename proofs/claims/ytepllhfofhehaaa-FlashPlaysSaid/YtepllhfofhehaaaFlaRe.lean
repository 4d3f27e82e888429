/- Layer 7: the document's flash: what a crash makes of it. -/
import Derived.Test.YtepllhfofhehaaaFlaRd
namespace Go.Proofs.Ytepllhfofhehaaa
open Go.RowKit Go.Own
namespace Fla
open Go.FlaM Byt

theorem strB_cat (a b : Bs) : strB a ++ strB b = strB (a ++ b) := by
  apply ByteArray.ext
  rw [ByteArray.data_append]
  simp [strB]
theorem strB_cut (a : Bs) (i j : Nat) : (strB a).extract i j = strB ((a.take j).drop i) := by
  apply ByteArray.ext
  rw [ByteArray.data_extract]
  simp [strB, List.extract_eq_take_drop, List.drop_take]
theorem str_take {o : Oper} {x y : Tmp} (ho : o.op = .slice 9 (.tmp x) none (some (.tmp y)) none) (a : Bs) (n : Nat) (hn : n ≤ a.length) (ha : a.length ≤ 1000000000) (ρ : Operand → Value) (w : World) (h0 : ρ (.tmp x) = strV a) (h1 : ρ (.tmp y) = .int .i64 (n : Int)) :
    (execOp ρ o).run Try.prog w = .ok (.value (strV (a.take n))) w := by
  have hs := strB_size a
  simp [execOp, ho, h0, h1, go_sem, hs, hn]
  rw [strB_cut]; simp
theorem str_drop {o : Oper} {x y : Tmp} (ho : o.op = .slice 9 (.tmp x) (some (.tmp y)) none none) (a : Bs) (n : Nat) (hn : n ≤ a.length) (ha : a.length ≤ 1000000000) (ρ : Operand → Value) (w : World) (h0 : ρ (.tmp x) = strV a) (h1 : ρ (.tmp y) = .int .i64 (n : Int)) :
    (execOp ρ o).run Try.prog w = .ok (.value (strV (a.drop n))) w := by
  have hs := strB_size a
  simp [execOp, ho, h0, h1, go_sem, hs, hn]
  rw [strB_cut]; simp
theorem str_add {o : Oper} {x y : Tmp} (ho : o.op = .binOp .add 9 (.tmp x) (.tmp y) 9) (a b : Bs) (hl : a.length + b.length ≤ 1000000000) (ρ : Operand → Value) (w : World) (h0 : ρ (.tmp x) = strV a) (h1 : ρ (.tmp y) = strV b) :
    (execOp ρ o).run Try.prog w = .ok (.value (strV (a ++ b))) w := by
  have e : ¬ 9223372036854775807 < (strB a).size + (strB b).size := by rw [strB_size, strB_size]; omega
  simp [execOp, ho, h0, h1, go_sem, e, strB_cat]
theorem idx_ss {o : Oper} {x y : Tmp} (ho : o.op = .indexAddr 69 (.tmp x) (.tmp y)) (g n c k : Nat) (hk : k < n) : ∀ (ρ : Operand → Value) w, ρ (.tmp x) = .slice (some ⟨g, 0, none⟩) n c → ρ (.tmp y) = .int .i64 (k : Int) → (execOp ρ o).run Try.prog w = .ok (.value (.pointer (some ⟨g, k, none⟩))) w := by
  intro ρ w h0 h1
  have hk' : (k : Int) < (n : Int) := by omega
  simp [execOp, ho, h0, h1, go_sem, hk, hk', add_of]
theorem idx_s {o : Oper} {x y : Tmp} (ho : o.op = .indexAddr 73 (.tmp x) (.tmp y)) (g n c k : Nat) (hk : k < n) : ∀ (ρ : Operand → Value) w, ρ (.tmp x) = .slice (some ⟨g, 0, none⟩) n c → ρ (.tmp y) = .int .i64 (k : Int) → (execOp ρ o).run Try.prog w = .ok (.value (.pointer (some ⟨g, k, none⟩))) w := by
  intro ρ w h0 h1
  have hk' : (k : Int) < (n : Int) := by omega
  simp [execOp, ho, h0, h1, go_sem, hk, hk', add_of]

/-- numbers that may be read as long as these objects are there -/
def FReads (B : Nat) (w0 : World) (Ps : List Asn) (ao : Option Addr) (l : List Int) : Prop :=
  ∀ (w : World) (Qs : List Asn), Own.St B w0 w (Qs ++ Ps) → ∀ j, j < l.length → ∃ b o, ao = some ⟨b, o, none⟩ ∧ w.cell? ⟨b, o + j, none⟩ = some (.int .i64 (l.getD j 0))
theorem liesI_reads {B : Nat} {w0 w : World} {Ps : List Asn} {ao : Option Addr} {n cap : Nat} {l : List Int} (h : LiesI B w Ps ao n cap l) (hw : Below B w0 w) : FReads B w0 Ps ao l := by
  intro wx Qs H j hj
  rcases h.where_ with ⟨i, b, hi, rfl⟩ | hv
  · have hi' : (Qs ++ Ps)[Qs.length + i]? = some (AVals b 3 (l.map (Value.int .i64))) := by rw [List.getElem?_append_right (by omega)]; simpa using hi
    have hc := (H.cellV (Qs.length + i) hi' j (v := .int .i64 (l.getD j 0)) (by rw [List.getElem?_map, List.getElem?_eq_getElem hj, List.getD_eq_getElem?_getD, List.getElem?_eq_getElem hj]; rfl)).1
    exact ⟨b, 0, rfl, by rw [Nat.zero_add]; exact hc⟩
  · rcases hv with rfl | ⟨b, o, e, hb, hs, hc⟩
    · simp at hj
    · have h2 := Own.Below.both hw H.below b hb
      exact ⟨b, o, e, (World.cell?_of_block (w := w) h2).trans (hc j hj).1⟩
end Fla
end Go.Proofs.Ytepllhfofhehaaa
