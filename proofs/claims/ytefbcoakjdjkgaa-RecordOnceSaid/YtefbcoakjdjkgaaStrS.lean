/- Words as values, for all layers: cut, put together, compared; rows of words and of numbers. -/
import Derived.Test.YtefbcoakjdjkgaaGri
import Derived.Test.YtefbcoakjdjkgaaGiv
namespace Go.Proofs.Ytefbcoakjdjkgaa
open Go.RowKit Go.Own
namespace Byt
abbrev strV (b : List UInt8) : Value := .string (strB b)
abbrev natV (n : Nat) : Value := .int .i64 (n : Int)
theorem strB_inj {a b : List UInt8} (h : strB a = strB b) : a = b := by rw [← strB_toList a, h, strB_toList]
theorem strB_size (a : List UInt8) : (strB a).size = a.length := by simp [strB, ByteArray.size]
theorem neq_str {o : Oper} {x y : Tmp} (ho : o.op = .binOp .neq 9 (.tmp x) (.tmp y) 9) (a b : List UInt8) (v : Bool) (hv : decide (a = b) = !v) (ρ : Operand → Value) (w : World) (h0 : ρ (.tmp x) = strV a) (h1 : ρ (.tmp y) = strV b) :
    (execOp ρ o).run Try.prog w = .ok (.value (.bool v)) w := by
  simp only [execOp, ho, h0, h1]
  cases v <;> simp at hv <;> simp [go_sem, strB_toList, hv]
theorem eql_str {o : Oper} {x y : Tmp} (ho : o.op = .binOp .eql 9 (.tmp x) (.tmp y) 9) (a b : List UInt8) (v : Bool) (hv : decide (a = b) = v) (ρ : Operand → Value) (w : World) (h0 : ρ (.tmp x) = strV a) (h1 : ρ (.tmp y) = strV b) :
    (execOp ρ o).run Try.prog w = .ok (.value (.bool v)) w := by
  simp only [execOp, ho, h0, h1]
  cases v <;> simp at hv <;> simp [go_sem, strB_toList, hv]
theorem strB_cat (a b : List UInt8) : strB a ++ strB b = strB (a ++ b) := by
  apply ByteArray.ext
  rw [ByteArray.data_append]
  simp [strB]
theorem strB_cut (a : List UInt8) (i j : Nat) : (strB a).extract i j = strB ((a.take j).drop i) := by
  apply ByteArray.ext
  rw [ByteArray.data_extract]
  simp [strB, List.extract_eq_take_drop, List.drop_take]
/-- a row of words -/
abbrev RowS (v : Value) (l : List (List UInt8)) : Asn := ARow 9 1 v l.length (l.map strV)
theorem rowS_at {B : Nat} {w0 w : World} {Ps : List Asn} {ao : Option Addr} {n c : Nat} {l : List (List UInt8)} (H : St B w0 w Ps) (i : Nat) (hi : Ps[i]? = some (RowS (.slice ao n c) l)) (j : Nat) (hj : j < l.length) :
    ∃ g, ao = some ⟨g, 0, none⟩ ∧ w.cell? ⟨g, j, none⟩ = some (strV (l.getD j [])) ∧ w.frozen? ⟨g, j, none⟩ = false ∧ ∀ x : List UInt8, St B w0 (w.setCell ⟨g, j, none⟩ (strV x)) (Ps.set i (RowS (.slice ao n c) (l.set j x))) := by
  obtain ⟨ao', c', e⟩ := H.rowForm i hi
  cases e
  obtain ⟨g, rfl, ⟨u, hu, hc⟩, hf, put⟩ := H.rowAt i hi j (by omega)
  have hu' : (l.map strV)[j]? = some (strV (l.getD j [])) := by rw [List.getElem?_map, List.getElem?_eq_getElem hj, List.getD_eq_getElem?_getD, List.getElem?_eq_getElem hj]; rfl
  rw [hu'] at hu
  cases hu
  refine ⟨g, rfl, hc, hf, fun x => ?_⟩
  have h := put (strV x)
  rw [← List.map_set] at h
  have e : RowS (.slice (some ⟨g, 0, none⟩) l.length c) (l.set j x) = ARow 9 1 (.slice (some ⟨g, 0, none⟩) l.length c) l.length ((l.set j x).map strV) := by show ARow _ _ _ _ _ = _; rw [List.length_set]
  rw [e]
  exact h
end Byt
end Go.Proofs.Ytefbcoakjdjkgaa
