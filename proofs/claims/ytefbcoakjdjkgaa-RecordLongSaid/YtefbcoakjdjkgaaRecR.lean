/- Layer 10: notes as values; the document's answer: Right. -/
import Derived.Test.YtefbcoakjdjkgaaRecM
import Derived.Test.YtefbcoakjdjkgaaStrS
import Derived.Test.YtefbcoakjdjkgaaCpy
import Derived.Test.YtefbcoakjdjkgaaArrEq
import Derived.Deep.MidRow
import Derived.Laws.StructEq
import Derived.Laws.Rows
import Derived.Great.Walk
import Derived.Lib.Hide
namespace Go.Proofs.Ytefbcoakjdjkgaa
open Go.RowKit Go.Own
namespace Rec
open Go.RecM Byt

abbrev errN (n : Nat) : Value := .int .i64 (n : Int)
def keyC (s : RecM.Bs) (k : Nat) : List Value := s.map byteV ++ [.int .u32 (k : Int)]
/-- a note's cells; v is its Data -/
def ntC (n : Nte) (v : Value) : List Value := .int .u8 (n.kind.toNat : Int) :: .int .u32 (n.addr : Int) :: .int .u64 (n.seq : Int) :: (keyC n.sum n.kn ++ [v])
theorem keyC_len (s : RecM.Bs) (k : Nat) (h : s.length = 32) : (keyC s k).length = 33 := by unfold keyC; simp [h]
theorem ntC_len (n : Nte) (v : Value) (h : n.sum.length = 32) : (ntC n v).length = 37 := by unfold ntC; simp [keyC_len _ _ h]
theorem ntC_data (n : Nte) (v : Value) (h : n.sum.length = 32) : (ntC n v)[36]? = some v := by
  unfold ntC
  show (keyC n.sum n.kn ++ [v])[33]? = some v
  rw [List.getElem?_append_right (by rw [keyC_len _ _ h]; omega), keyC_len _ _ h]
  rfl
theorem ntC_kn (n : Nte) (v : Value) (h : n.sum.length = 32) : (ntC n v)[35]? = some (.int .u32 (n.kn : Int)) := by
  unfold ntC keyC
  show ((n.sum.map byteV ++ [_]) ++ [v])[32]? = _
  rw [List.append_assoc, List.getElem?_append_right (by simp [h]), List.length_map, h]
  rfl
theorem ntC_key (n : Nte) (v : Value) (j : Nat) (u : Value) (h : (keyC n.sum n.kn)[j]? = some u) : (ntC n v)[3 + j]? = some u := by
  unfold ntC
  rw [Nat.add_comm]
  show (keyC n.sum n.kn ++ [v])[j]? = some u
  rw [List.getElem?_append_left (List.getElem?_eq_some_iff.1 h).1]
  exact h
theorem ntC_sum (n : Nte) (v : Value) (j : Nat) (u : Value) (h : (n.sum.map byteV)[j]? = some u) : (ntC n v)[3 + j]? = some u := by
  refine ntC_key n v j u ?_
  unfold keyC
  rw [List.getElem?_append_left (List.getElem?_eq_some_iff.1 h).1]
  exact h
theorem ntC_one {n : Nte} {v : Value} (hv : v.oneCell' = true) : ∀ u ∈ ntC n v, u.oneCell' = true := by
  intro u hu
  unfold ntC keyC at hu
  simp only [List.mem_cons, List.mem_append, List.not_mem_nil, or_false] at hu
  rcases hu with rfl | rfl | rfl | (h | rfl) | rfl
  · rfl
  · rfl
  · rfl
  · exact byteV_one _ u h
  · rfl
  · exact hv
theorem info_key (cs : List Value) (h : cs.length = 33) : (Try.prog.info? 27).map (·.size) = some cs.length := by
  have h0 : (Try.prog.info? 27).map (fun i => i.size) = some 33 := by kernel_rfl
  rw [h]; exact h0
theorem info_note (cs : List Value) (h : cs.length = 37) : (Try.prog.info? 30).map (·.size) = some cs.length := by
  have h0 : (Try.prog.info? 30).map (fun i => i.size) = some 37 := by kernel_rfl
  rw [h]; exact h0
theorem info_noteA (cs : List Value) (h : cs.length = 37) : (Try.prog.info? 30).map (·.size) = some cs.toArray.size := by rw [List.size_toArray]; exact info_note cs h
/-- a key, a note are loaded, whatever the guard -/
theorem load_key (cs : List Value) (hl : cs.length = 33) {o : Oper} {x : Tmp} (ho : o.op = .load 27 (.tmp x)) {b k : Nat} (ρ : Operand → Value) {w : World} (hr : w.rangeAt b k cs) (h0 : ρ (.tmp x) = .pointer (some ⟨b, k, none⟩)) : (execOp ρ o).run Try.prog w = .ok (.value (.agg cs.toArray)) w := by
  have := run_loadAt_mid (P := Try.prog) w b k 27 cs _ hr Try.underlying27 rfl (info_key cs hl)
  unfold execOp
  simp only [ho, h0, Sem.run_bind, this, Result.andThen_ok, Sem.run_pure]
theorem load_note (cs : List Value) (hl : cs.length = 37) {o : Oper} {x : Tmp} (ho : o.op = .load 30 (.tmp x)) {b k : Nat} (ρ : Operand → Value) {w : World} (hr : w.rangeAt b k cs) (h0 : ρ (.tmp x) = .pointer (some ⟨b, k, none⟩)) : (execOp ρ o).run Try.prog w = .ok (.value (.agg cs.toArray)) w := by
  have := run_loadAt_mid (P := Try.prog) w b k 30 cs _ hr Try.underlying30 rfl (info_note cs hl)
  unfold execOp
  simp only [ho, h0, Sem.run_bind, this, Result.andThen_ok, Sem.run_pure]
theorem built_key0 : Try.prog.built 27 [] = some (keyC zsum 0).toArray := by kernel_rfl
theorem zero_key {o : Oper} (ho : o.op = .build 27 #[]) (ρ : Operand → Value) (w : World) : (execOp ρ o).run Try.prog w = .ok (.value (.agg (keyC zsum 0).toArray)) w := by
  have := run_build w 27 (#[] : Array (Nat × Value)) _ built_key0
  unfold execOp
  simp only [ho, List.map_toArray, List.map_nil, Sem.run_bind, this, Result.andThen_ok, Sem.run_pure]
theorem bytes_ints (l : RecM.Bs) : (l.map (fun x => (x.toNat : Int))).map (Value.int .u8) = l.map byteV := by
  rw [List.map_map]; rfl
theorem bytes_eq (a b : RecM.Bs) : decide (a.map (fun x => (x.toNat : Int)) = b.map (fun x => (x.toNat : Int))) = decide (a = b) := by
  apply decide_eq_decide.2
  constructor
  · intro h
    exact (List.map_inj_right (fun x y h => UInt8.toNat_inj.1 (by omega))).1 h
  · rintro rfl; rfl
theorem run_eq_sum (d : Nat) (a b : RecM.Bs) (ha : a.length = 32) (hb : b.length = 32) (w : World) : (Op.equalIn (d + 2) 25 (.agg (a.map byteV).toArray) (.agg (b.map byteV).toArray)).run Try.prog w = .ok (decide (a = b)) w := by
  have h := run_equalIn_ints (P := Try.prog) d 25 5 .u8 (a.map (fun x => (x.toNat : Int))) (b.map (fun x => (x.toNat : Int))) (by simp [ha, hb]) (by rw [List.length_map, ha]; exact Try.underlying25) Try.underlying5 (fun w => by kernel_rfl) (fun w => by kernel_rfl) w
  rw [bytes_eq, bytes_ints, bytes_ints] at h
  exact h
theorem key_fields : (Try.prog.fieldsOf 27).toList.map (fun f => (f.name, f.type, f.offset)) = [("Sum", 25, 0), ("N", 22, 32)] := by kernel_rfl
theorem part_sum (a : RecM.Bs) (x : Nat) (ha : a.length = 32) (w : World) : (part 25 (keyC a x).toArray 0).run Try.prog w = .ok (.agg (a.map byteV).toArray) w := by
  have h1 : ∀ w, (isAgg 25).run Try.prog w = .ok true w := fun w => by kernel_rfl
  have h2 : ∀ w, (sizeOf 25).run Try.prog w = .ok 32 w := fun w => by kernel_rfl
  have e : (keyC a x).toArray.extract 0 (0 + 32) = (a.map byteV).toArray := by
    unfold keyC
    rw [List.extract_toArray]
    congr 1
    rw [List.extract_eq_take_drop, List.drop_zero, List.take_append_of_le_length (by simp [ha]), List.take_of_length_le (by simp [ha])]
  unfold part
  simp only [Sem.run_bind, h1, h2, Result.andThen_ok, if_true, Sem.run_pure, e]
theorem part_kn (a : RecM.Bs) (x : Nat) (ha : a.length = 32) (w : World) : (part 22 (keyC a x).toArray 32).run Try.prog w = .ok (.int .u32 (x : Int)) w := by
  have h1 : ∀ w, (isAgg 22).run Try.prog w = .ok false w := fun w => by kernel_rfl
  have e : (keyC a x).toArray[32]? = some (.int .u32 (x : Int)) := by
    unfold keyC
    rw [List.getElem?_toArray, List.getElem?_append_right (by simp [ha]), List.length_map, ha]
    rfl
  unfold part
  simp only [Sem.run_bind, h1, Result.andThen_ok, Bool.false_eq_true, if_false, e, Sem.run_pure]
theorem run_eq_key (a b : RecM.Bs) (x y : Nat) (ha : a.length = 32) (hb : b.length = 32) (w : World) : (Op.equalIn 10000 27 (.agg (keyC a x).toArray) (.agg (keyC b y).toArray)).run Try.prog w = .ok (decide (a = b) && decide (x = y)) w := by
  have ht : Try.prog.underlying 27 = some (.struct (Try.prog.fieldsOf 27)) := by kernel_rfl
  have hp : Try.prog.stoodInHeld 27 = false := by kernel_rfl
  have h := run_equalIn_struct (P := Try.prog) w 9999 27 (keyC a x).toArray (keyC b y).toArray ht hp
  rw [h]
  have hf := key_fields
  match hl : (Try.prog.fieldsOf 27).toList with
  | [] => rw [hl] at hf; simp at hf
  | [_] => rw [hl] at hf; simp at hf
  | _ :: _ :: _ :: _ => rw [hl] at hf; simp at hf
  | [f0, f1] =>
    rw [hl] at hf
    simp only [List.map_cons, List.map_nil, List.cons.injEq, Prod.mk.injEq, and_true] at hf
    obtain ⟨⟨n0, t0, o0⟩, n1, t1, o1⟩ := hf
    have hs := run_eq_sum 9997 a b ha hb w
    have hi := run_equalIn_int (P := Try.prog) w 9998 22 .u32 .u32 (x : Int) (y : Int) Try.underlying22
    simp only [Op.eqFields, n0, t0, o0, n1, t1, o1, ne_eq, String.reduceEq, not_false_eq_true, if_true, Sem.run_bind, part_sum a x ha, part_sum b y hb, part_kn a x ha, part_kn b y hb, Result.andThen_ok]
    rw [hs]
    by_cases hab : a = b
    · subst hab
      simp only [decide_true, Result.andThen_ok, Bool.not_true, Bool.false_eq_true, if_false, Sem.run_bind, part_kn a x ha, part_kn a y ha, Bool.true_and]
      rw [hi]
      by_cases hxy : x = y
      · simp [hxy]
      · have hxy' : ¬ (x : Int) = (y : Int) := by omega
        simp [hxy, hxy']
    · simp [hab]
theorem eql_key {o : Oper} {x y : Tmp} (ho : o.op = .binOp .eql 27 (.tmp x) (.tmp y) 27) {a b : RecM.Bs} {m n : Nat} (ha : a.length = 32) (hb : b.length = 32) {v : Bool} (hv : (decide (a = b) && decide (m = n)) = v) (ρ : Operand → Value) (w : World)
    (h0 : ρ (.tmp x) = .agg (keyC a m).toArray) (h1 : ρ (.tmp y) = .agg (keyC b n).toArray) : (execOp ρ o).run Try.prog w = .ok (.value (.bool v)) w := by
  have h' := run_eq_key a b m n ha hb w
  rw [hv] at h'
  have hm : Try.prog.eqGuardType Try.prog.depth 27 = false := by kernel_rfl
  have hg := run_eqGuard_agg (P := Try.prog) w .eql 27 (.tmp x) (.tmp y) (keyC a m).toArray (keyC b n).toArray hm
  have hb := run_eql_struct (P := Try.prog) w 27 (keyC a m).toArray (keyC b n).toArray
  rw [h'] at hb
  unfold execOp
  simp only [ho, h0, h1, Sem.run_bind, hg, Result.andThen_ok, hb, Sem.run_pure]

theorem kind_is (c : UInt8) : (c = 1 ↔ c.toNat = 1) ∧ (c = 2 ↔ c.toNat = 2) ∧ (c = 3 ↔ c.toNat = 3) ∧ (c = 4 ↔ c.toNat = 4) :=
  ⟨⟨fun h => by rw [h]; rfl, fun h => UInt8.toNat_inj.1 (by rw [h]; rfl)⟩, ⟨fun h => by rw [h]; rfl, fun h => UInt8.toNat_inj.1 (by rw [h]; rfl)⟩, ⟨fun h => by rw [h]; rfl, fun h => UInt8.toNat_inj.1 (by rw [h]; rfl)⟩, ⟨fun h => by rw [h]; rfl, fun h => UInt8.toNat_inj.1 (by rw [h]; rfl)⟩⟩
end Rec
end Go.Proofs.Ytefbcoakjdjkgaa
