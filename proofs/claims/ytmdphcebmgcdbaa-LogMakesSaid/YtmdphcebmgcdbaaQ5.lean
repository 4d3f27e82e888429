/- Merged: RecR RecTb RecRb RecQ Ado LogQ LawLog LawLogA LawLogN LawLogB MapV PrK LawLogC LawLogD FlaK FlbM FlbG Mny -/
import Derived.Deep.MidRow
import Derived.Laws.StructEq
import Derived.Laws.Rows
import Derived.Great.Walk
import Derived.Lib.Hide
import Derived.WalkLawsBesides
import Derived.Maps.Own
import Derived.Maps.Views
import Derived.WideKeyArr
import Derived.Carry
import Derived.Test.YtmdphcebmgcdbaaQ1
import Derived.Test.YtmdphcebmgcdbaaQ2
import Derived.Test.YtmdphcebmgcdbaaQ3
import Derived.Test.YtmdphcebmgcdbaaQ4
set_option linter.unusedVariables false
section
namespace Go.Proofs.Ytmdphcebmgcdbaa
open Go.RowKit Go.Own
namespace Rec
open Go.RecM Byt

abbrev errN (n : Nat) : Value := .int .i64 (n : Int)
def keyC (s : RecM.Bs) (k : Nat) : List Value := s.map byteV ++ [.int .u32 (k : Int)]
/-- a note's cells; v is its Data -/
def ntC (n : Nte) (v : Value) : List Value := .int .u8 (n.kind.toNat : Int) :: .int .u32 (n.addr : Int) :: .int .u64 (n.seq : Int) :: (keyC n.sum n.kn ++ [v])
theorem keyC_len (s : RecM.Bs) (k : Nat) (h : s.length = 32) : (keyC s k).length = 33 := by unfold keyC; simp [h]
theorem ntC_len (n : Nte) (v : Value) (h : n.sum.length = 32) : (ntC n v).length = 37 := by unfold ntC; simp [keyC_len _ _ h]
theorem ntC_data (n : Nte) (v : Value) (h : n.sum.length = 32) : (ntC n v)[36]? = some v := by
  unfold ntC
  show (keyC n.sum n.kn ++ [v])[33]? = some v
  rw [List.getElem?_append_right (by rw [keyC_len _ _ h]; omega), keyC_len _ _ h]
  rfl
theorem ntC_kn (n : Nte) (v : Value) (h : n.sum.length = 32) : (ntC n v)[35]? = some (.int .u32 (n.kn : Int)) := by
  unfold ntC keyC
  show ((n.sum.map byteV ++ [_]) ++ [v])[32]? = _
  rw [List.append_assoc, List.getElem?_append_right (by simp [h]), List.length_map, h]
  rfl
theorem ntC_key (n : Nte) (v : Value) (j : Nat) (u : Value) (h : (keyC n.sum n.kn)[j]? = some u) : (ntC n v)[3 + j]? = some u := by
  unfold ntC
  rw [Nat.add_comm]
  show (keyC n.sum n.kn ++ [v])[j]? = some u
  rw [List.getElem?_append_left (List.getElem?_eq_some_iff.1 h).1]
  exact h
theorem ntC_sum (n : Nte) (v : Value) (j : Nat) (u : Value) (h : (n.sum.map byteV)[j]? = some u) : (ntC n v)[3 + j]? = some u := by
  refine ntC_key n v j u ?_
  unfold keyC
  rw [List.getElem?_append_left (List.getElem?_eq_some_iff.1 h).1]
  exact h
theorem ntC_one {n : Nte} {v : Value} (hv : v.oneCell' = true) : ∀ u ∈ ntC n v, u.oneCell' = true := by
  intro u hu
  unfold ntC keyC at hu
  simp only [List.mem_cons, List.mem_append, List.not_mem_nil, or_false] at hu
  rcases hu with rfl | rfl | rfl | (h | rfl) | rfl
  · rfl
  · rfl
  · rfl
  · exact byteV_one _ u h
  · rfl
  · exact hv
theorem info_key (cs : List Value) (h : cs.length = 33) : (Try.prog.info? 55).map (·.size) = some cs.length := by
  have h0 : (Try.prog.info? 55).map (fun i => i.size) = some 33 := by kernel_rfl
  rw [h]; exact h0
theorem info_note (cs : List Value) (h : cs.length = 37) : (Try.prog.info? 58).map (·.size) = some cs.length := by
  have h0 : (Try.prog.info? 58).map (fun i => i.size) = some 37 := by kernel_rfl
  rw [h]; exact h0
theorem info_noteA (cs : List Value) (h : cs.length = 37) : (Try.prog.info? 58).map (·.size) = some cs.toArray.size := by rw [List.size_toArray]; exact info_note cs h
/-- a key, a note are loaded, whatever the guard -/
theorem load_key (cs : List Value) (hl : cs.length = 33) {o : Oper} {x : Tmp} (ho : o.op = .load 55 (.tmp x)) {b k : Nat} (ρ : Operand → Value) {w : World} (hr : w.rangeAt b k cs) (h0 : ρ (.tmp x) = .pointer (some ⟨b, k, none⟩)) : (execOp ρ o).run Try.prog w = .ok (.value (.agg cs.toArray)) w := by
  have := run_loadAt_mid (P := Try.prog) w b k 55 cs _ hr Try.underlying55 rfl (info_key cs hl)
  unfold execOp
  simp only [ho, h0, Sem.run_bind, this, Result.andThen_ok, Sem.run_pure]
theorem load_note (cs : List Value) (hl : cs.length = 37) {o : Oper} {x : Tmp} (ho : o.op = .load 58 (.tmp x)) {b k : Nat} (ρ : Operand → Value) {w : World} (hr : w.rangeAt b k cs) (h0 : ρ (.tmp x) = .pointer (some ⟨b, k, none⟩)) : (execOp ρ o).run Try.prog w = .ok (.value (.agg cs.toArray)) w := by
  have := run_loadAt_mid (P := Try.prog) w b k 58 cs _ hr Try.underlying58 rfl (info_note cs hl)
  unfold execOp
  simp only [ho, h0, Sem.run_bind, this, Result.andThen_ok, Sem.run_pure]
theorem built_key0 : Try.prog.built 55 [] = some (keyC zsum 0).toArray := by kernel_rfl
theorem zero_key {o : Oper} (ho : o.op = .build 55 #[]) (ρ : Operand → Value) (w : World) : (execOp ρ o).run Try.prog w = .ok (.value (.agg (keyC zsum 0).toArray)) w := by
  have := run_build w 55 (#[] : Array (Nat × Value)) _ built_key0
  unfold execOp
  simp only [ho, List.map_toArray, List.map_nil, Sem.run_bind, this, Result.andThen_ok, Sem.run_pure]
theorem bytes_ints (l : RecM.Bs) : (l.map (fun x => (x.toNat : Int))).map (Value.int .u8) = l.map byteV := by
  rw [List.map_map]; rfl
theorem bytes_eq (a b : RecM.Bs) : decide (a.map (fun x => (x.toNat : Int)) = b.map (fun x => (x.toNat : Int))) = decide (a = b) := by
  apply decide_eq_decide.2
  constructor
  · intro h
    exact (List.map_inj_right (fun x y h => UInt8.toNat_inj.1 (by omega))).1 h
  · rintro rfl; rfl
theorem run_eq_sum (d : Nat) (a b : RecM.Bs) (ha : a.length = 32) (hb : b.length = 32) (w : World) : (Op.equalIn (d + 2) 53 (.agg (a.map byteV).toArray) (.agg (b.map byteV).toArray)).run Try.prog w = .ok (decide (a = b)) w := by
  have h := run_equalIn_ints (P := Try.prog) d 53 5 .u8 (a.map (fun x => (x.toNat : Int))) (b.map (fun x => (x.toNat : Int))) (by simp [ha, hb]) (by rw [List.length_map, ha]; exact Try.underlying53) Try.underlying5 (fun w => by kernel_rfl) (fun w => by kernel_rfl) w
  rw [bytes_eq, bytes_ints, bytes_ints] at h
  exact h
theorem key_fields : (Try.prog.fieldsOf 55).toList.map (fun f => (f.name, f.type, f.offset)) = [("Sum", 53, 0), ("N", 50, 32)] := by kernel_rfl
theorem part_sum (a : RecM.Bs) (x : Nat) (ha : a.length = 32) (w : World) : (part 53 (keyC a x).toArray 0).run Try.prog w = .ok (.agg (a.map byteV).toArray) w := by
  have h1 : ∀ w, (isAgg 53).run Try.prog w = .ok true w := fun w => by kernel_rfl
  have h2 : ∀ w, (sizeOf 53).run Try.prog w = .ok 32 w := fun w => by kernel_rfl
  have e : (keyC a x).toArray.extract 0 (0 + 32) = (a.map byteV).toArray := by
    unfold keyC
    rw [List.extract_toArray]
    congr 1
    rw [List.extract_eq_take_drop, List.drop_zero, List.take_append_of_le_length (by simp [ha]), List.take_of_length_le (by simp [ha])]
  unfold part
  simp only [Sem.run_bind, h1, h2, Result.andThen_ok, if_true, Sem.run_pure, e]
theorem part_kn (a : RecM.Bs) (x : Nat) (ha : a.length = 32) (w : World) : (part 50 (keyC a x).toArray 32).run Try.prog w = .ok (.int .u32 (x : Int)) w := by
  have h1 : ∀ w, (isAgg 50).run Try.prog w = .ok false w := fun w => by kernel_rfl
  have e : (keyC a x).toArray[32]? = some (.int .u32 (x : Int)) := by
    unfold keyC
    rw [List.getElem?_toArray, List.getElem?_append_right (by simp [ha]), List.length_map, ha]
    rfl
  unfold part
  simp only [Sem.run_bind, h1, Result.andThen_ok, Bool.false_eq_true, if_false, e, Sem.run_pure]
theorem run_eq_key (a b : RecM.Bs) (x y : Nat) (ha : a.length = 32) (hb : b.length = 32) (w : World) : (Op.equalIn 10000 55 (.agg (keyC a x).toArray) (.agg (keyC b y).toArray)).run Try.prog w = .ok (decide (a = b) && decide (x = y)) w := by
  have ht : Try.prog.underlying 55 = some (.struct (Try.prog.fieldsOf 55)) := by kernel_rfl
  have hp : Try.prog.stoodInHeld 55 = false := by kernel_rfl
  have h := run_equalIn_struct (P := Try.prog) w 9999 55 (keyC a x).toArray (keyC b y).toArray ht hp
  rw [h]
  have hf := key_fields
  match hl : (Try.prog.fieldsOf 55).toList with
  | [] => rw [hl] at hf; simp at hf
  | [_] => rw [hl] at hf; simp at hf
  | _ :: _ :: _ :: _ => rw [hl] at hf; simp at hf
  | [f0, f1] =>
    rw [hl] at hf
    simp only [List.map_cons, List.map_nil, List.cons.injEq, Prod.mk.injEq, and_true] at hf
    obtain ⟨⟨n0, t0, o0⟩, n1, t1, o1⟩ := hf
    have hs := run_eq_sum 9997 a b ha hb w
    have hi := run_equalIn_int (P := Try.prog) w 9998 50 .u32 .u32 (x : Int) (y : Int) Try.underlying50
    simp only [Op.eqFields, n0, t0, o0, n1, t1, o1, ne_eq, String.reduceEq, not_false_eq_true, if_true, Sem.run_bind, part_sum a x ha, part_sum b y hb, Result.andThen_ok]
    rw [hs]
    by_cases hab : a = b
    · subst hab
      simp only [decide_true, Result.andThen_ok, Bool.not_true, Bool.false_eq_true, if_false, Sem.run_bind, part_kn a x ha, part_kn a y ha, Bool.true_and]
      rw [hi]
      by_cases hxy : x = y
      · simp [hxy]
      · have hxy' : ¬ (x : Int) = (y : Int) := by omega
        simp [hxy, hxy']
    · simp [hab]
theorem eql_key {o : Oper} {x y : Tmp} (ho : o.op = .binOp .eql 55 (.tmp x) (.tmp y) 55) {a b : RecM.Bs} {m n : Nat} (ha : a.length = 32) (hb : b.length = 32) {v : Bool} (hv : (decide (a = b) && decide (m = n)) = v) (ρ : Operand → Value) (w : World)
    (h0 : ρ (.tmp x) = .agg (keyC a m).toArray) (h1 : ρ (.tmp y) = .agg (keyC b n).toArray) : (execOp ρ o).run Try.prog w = .ok (.value (.bool v)) w := by
  have h' := run_eq_key a b m n ha hb w
  rw [hv] at h'
  have hm : Try.prog.eqGuardType Try.prog.depth 55 = false := by kernel_rfl
  have hg := run_eqGuard_agg (P := Try.prog) w .eql 55 (.tmp x) (.tmp y) (keyC a m).toArray (keyC b n).toArray hm
  have hb := run_eql_struct (P := Try.prog) w 55 (keyC a m).toArray (keyC b n).toArray
  rw [h'] at hb
  unfold execOp
  simp only [ho, h0, h1, Sem.run_bind, hg, Result.andThen_ok, hb, Sem.run_pure]

theorem kind_is (c : UInt8) : (c = 1 ↔ c.toNat = 1) ∧ (c = 2 ↔ c.toNat = 2) ∧ (c = 3 ↔ c.toNat = 3) ∧ (c = 4 ↔ c.toNat = 4) :=
  ⟨⟨fun h => by rw [h]; rfl, fun h => UInt8.toNat_inj.1 (by rw [h]; rfl)⟩, ⟨fun h => by rw [h]; rfl, fun h => UInt8.toNat_inj.1 (by rw [h]; rfl)⟩, ⟨fun h => by rw [h]; rfl, fun h => UInt8.toNat_inj.1 (by rw [h]; rfl)⟩, ⟨fun h => by rw [h]; rfl, fun h => UInt8.toNat_inj.1 (by rw [h]; rfl)⟩⟩
end Rec
end Go.Proofs.Ytmdphcebmgcdbaa

end
section
namespace Go.Proofs.Ytmdphcebmgcdbaa
open Go.RowKit Go.Own
namespace Rec
open Go.RecM Byt
open Cod (RS)
abbrev nilV : Value := .slice none 0 0
abbrev ntV (n : Nte) (v : Value) : Value := .agg (ntC n v).toArray
theorem built_note (k : Nat) : Try.prog.built 58 [(0, .int .u8 (k : Int))] = some (.int .u8 (k : Int) :: (ntC zeroN nilV).drop 1).toArray := by kernel_rfl
theorem built_note0 : Try.prog.built 58 [] = some (ntC zeroN nilV).toArray := by kernel_rfl
theorem zero_note : (Try.prog.info? 58).bind (·.zero) = some (.agg (ntC zeroN nilV).toArray) := by kernel_rfl
theorem ntC_setN (n : Nte) (v : Value) (h : n.sum.length = 32) (k : Nat) : (ntC n v).set 35 (.int .u32 (k : Int)) = ntC { n with kn := k } v := by
  unfold ntC keyC
  show _ :: _ :: _ :: ((((n.sum.map byteV) ++ [Value.int .u32 (n.kn : Int)]) ++ [v]).set 32 (.int .u32 (k : Int))) = _
  rw [List.append_assoc, List.set_append_right _ _ (by simp [h]), List.append_assoc, List.length_map, h]
  rfl
theorem ntC_setD (n : Nte) (v u : Value) (h : n.sum.length = 32) : (ntC n v).set 36 u = ntC n u := by
  unfold ntC
  show _ :: _ :: _ :: ((keyC n.sum n.kn ++ [v]).set 33 u) = _
  rw [List.set_append_right _ _ (by rw [keyC_len _ _ h]; omega), keyC_len _ _ h]
  rfl
theorem num_bound (r : RS) (k : Nat) (hk : k ≤ 8) : (r.num (k : Int)).1 < 2 ^ (8 * k) := by
  obtain ⟨l, e⟩ := r
  unfold RS.num
  split
  · exact Nat.two_pow_pos _
  split
  · exact Nat.two_pow_pos _
  simp only
  split
  · exact Nat.two_pow_pos _
  · simp only [Int.toNat_natCast]
    rw [cod_num]
    exact Nat.lt_of_lt_of_le (num_lt _) (Nat.pow_le_pow_right (by decide) (by rw [List.length_take]; omega))
theorem raw_size (r : RS) : (r.raw 32).1.length = 0 ∨ (r.raw 32).1.length = 32 := by
  obtain ⟨l, e⟩ := r
  unfold RS.raw
  split
  · exact .inl rfl
  split
  · exact .inl rfl
  simp only
  split
  · exact .inl rfl
  · rename_i h
    right
    rw [List.length_take]
    show min 32 l.length = 32
    omega
theorem blob_size (r : RS) : (r.blob 300).1.length ≤ 300 := by
  obtain ⟨l, e⟩ := r
  unfold RS.blob
  split
  · exact Nat.zero_le _
  simp only
  split
  · exact Nat.zero_le _
  · simp only
    rw [List.length_take]
    unfold Cod.blobSz
    split
    · exact Nat.zero_le _
    split
    · exact Nat.zero_le _
    split
    · exact Nat.zero_le _
    · simp only; omega
end Rec
end Go.Proofs.Ytmdphcebmgcdbaa

end
section
namespace Go.Proofs.Ytmdphcebmgcdbaa
open Go.RowKit Go.Own
namespace Rec
open Go.RecM Byt
theorem cod_le (n k : Nat) : Cod.le n k = RecM.le n k := by
  induction k with
  | zero => rfl
  | succ k ih => rw [Cod.le, RecM.le, ih]
/-- an answer of Lay: its bytes are one's own -/
def LayNew (x : RecM.Bs × Nat) (w : World) (e : Ending) (w' : World) : Prop := ∃ ao cap, e = .returned (.tuple #[.slice ao x.1.length cap, errN x.2]) ∧ Own.St w.heap.size w w' [AB ao x.1.length cap x.1]
/-- the fields of a note in a block -/
theorem nt_cells {B : Nat} {w0 w : World} {Ps : List Asn} {b : Nat} {cs : List Value} (H : Own.St B w0 w Ps) (i : Nat) (hi : Ps[i]? = some (AVals b 58 cs)) {n : Nte} {v : Value} (hcs : cs = ntC n v) (hs : n.sum.length = 32) :
    w.cell? ⟨b, 0, none⟩ = some (.int .u8 (n.kind.toNat : Int)) ∧ w.cell? ⟨b, 1, none⟩ = some (.int .u32 (n.addr : Int)) ∧ w.cell? ⟨b, 2, none⟩ = some (.int .u64 (n.seq : Int)) ∧ w.cell? ⟨b, 35, none⟩ = some (.int .u32 (n.kn : Int)) ∧ w.cell? ⟨b, 36, none⟩ = some v ∧
      (∀ a, some (⟨b, 3, none⟩ : Addr) = some a → ∀ j u, (n.sum.map byteV)[j]? = some u → w.cell? (a.add j) = some u) := by
  have cc : ∀ j u, cs[j]? = some u → w.cell? ⟨b, j, none⟩ = some u := fun j u h => (H.cellV i hi j h).1
  refine ⟨cc 0 _ (by rw [hcs]; rfl), cc 1 _ (by rw [hcs]; rfl), cc 2 _ (by rw [hcs]; rfl), cc 35 _ (by rw [hcs]; exact ntC_kn n v hs), cc 36 _ (by rw [hcs]; exact ntC_data n v hs), ?_⟩
  intro a ha j u hu
  cases ha
  rw [add_of]
  exact cc (3 + j) u (by rw [hcs]; exact ntC_sum n v j u hu)
theorem own_news {B : Nat} {w0 w : World} {Ps : List Asn} {ao : Option Addr} {n cap : Nat} {l : List UInt8} (H : Own.St B w0 w Ps) (i : Nat) (hi : Ps[i]? = some (AB ao n cap l)) : (ao = none → n = 0 ∧ cap = 0) ∧ (∀ a, ao = some a → ∀ j u, (l.map byteV)[j]? = some u → w.cell? (a.add j) = some u) :=
  ⟨(ab_len H i hi).2.2.2, vcells (ab_view H i hi)⟩
theorem lay_of {n : Nte} (hr : right n = true) : lay n = (laid n, 0) := by unfold lay; rw [if_pos hr]

end Rec
end Go.Proofs.Ytmdphcebmgcdbaa

end
section
namespace Go.Proofs.Ytmdphcebmgcdbaa
open Go.RowKit Go.Own
namespace Rec
open Go.RecM Byt
def RetYes (w : World) (e : Ending) (w' : World) : Prop := e = .returned (.bool true) ∧ Below w.heap.size w w'
/-- an answer of Lay -/
def LayDone (x : RecM.Bs × Nat) (w : World) (e : Ending) (w' : World) : Prop := ∃ ao cap, e = .returned (.tuple #[.slice ao x.1.length cap, errN x.2]) ∧ Given w' ao x.1.length cap x.1 ∧ Below w.heap.size w w'
theorem LayNew.done {x : RecM.Bs × Nat} {w : World} {e : Ending} {w' : World} (h : LayNew x w e w') : LayDone x w e w' := by
  obtain ⟨ao, cap, he, h⟩ := h
  exact ⟨ao, cap, he, given_own h 0 rfl, h.below⟩
/-- an answer of Take in memory of its own -/
def TakeNew (x : Nte × Nat) (w : World) (e : Ending) (w' : World) : Prop := ∃ ao cap, e = .returned (.tuple #[ntV x.1 (.slice ao x.1.data.length cap), errN x.2]) ∧ Given w' ao x.1.data.length cap x.1.data ∧ View w' (fun k => w.heap.size ≤ k) ao x.1.data ∧ Below w.heap.size w w'
structure Kept (W : World) where
  right : ∀ {w : World} (n : Nte) (ao : Option Addr) (len cap : Nat), Fits n → Below W.heap.size W w → Given w ao len cap n.data → len ≤ 1000000 →
    Calls Try.prog 63 #[ntV n (.slice ao len cap)] w fun e w' => e = .returned (.bool (right n)) ∧ Below w.heap.size w w'
  lay : ∀ {w : World} (n : Nte) (ao : Option Addr) (len cap : Nat), Fits n → Below W.heap.size W w → Given w ao len cap n.data → len ≤ 1000000 →
    Calls Try.prog 52 #[ntV n (.slice ao len cap)] w (LayDone (lay n) w)
  take : ∀ {w : World} (ao : Option Addr) (n cap : Nat) (p : RecM.Bs), Below W.heap.size W w → Given w ao n cap p → n ≤ 1000000 →
    Calls Try.prog 62 #[.slice ao n cap] w (TakeNew (RecM.take p) w)
theorem laid_small {n : Nte} (f : Fits n) (h : right n = true) : (laid n).length ≤ 351 ∧ 0 < (laid n).length := by
  have := right_data h
  rw [laid_len f]
  unfold sizeN
  split
  · omega
  split
  · omega
  split <;> omega
set_option maxHeartbeats 1600000 in
/-- a note is the same as itself, whatever memory its data lie in -/
theorem same_self (n : Nte) (hs : n.sum.length = 32) (a1 a2 : Option Addr) (len c1 c2 : Nat) (w : World) {D1 D2 : Nat → Prop} (h1 : View w D1 a1 n.data) (h2 : View w D2 a2 n.data) (hl : n.data.length = len) :
    Calls Try.prog 23 #[ntV n (.slice a1 len c1), ntV n (.slice a2 len c2)] w fun e w' => e = .returned (.bool true) ∧ Below w.heap.size w w' := by
  show Calls Try.prog _ #[.agg (ntC n (.slice a1 len c1)).toArray, .agg (ntC n (.slice a2 len c2)).toArray] w _
  obtain ⟨x, hx⟩ : ∃ cs, cs = ntC n (.slice a1 len c1) := ⟨_, rfl⟩
  obtain ⟨y, hy⟩ : ∃ cs, cs = ntC n (.slice a2 len c2) := ⟨_, rfl⟩
  rw [← hx, ← hy]
  have hbox := ((Own.St.start w).boxV 58 x).boxV 58 y
  obtain ⟨b, hbd⟩ : ∃ b, b = w.heap.size := ⟨_, rfl⟩
  obtain ⟨w1, hw1⟩ : ∃ w1, w1 = w.alloc (.cells x.toArray 58) := ⟨_, rfl⟩
  obtain ⟨c, hcd⟩ : ∃ b, b = w1.heap.size := ⟨_, rfl⟩
  obtain ⟨w2, hw2⟩ : ∃ w2, w2 = w1.alloc (.cells y.toArray 58) := ⟨_, rfl⟩
  have H : Hid (Own.St w.heap.size w w2 [AVals c 58 y, AVals b 58 x]) := by rw [hw2, hcd, hw1, hbd]; exact hbox
  have V1 : Hid (View w2 D1 a1 n.data) := vlater h1 H.out.below
  have V2 : Hid (View w2 D2 a2 n.data) := vlater h2 H.out.below
  have HL := Lib.hid hl
  have HS := Lib.hid hs
  have XL : Hid (x.length = 37) := by show _ = _; rw [hx]; exact ntC_len n _ hs
  have YL : Hid (y.length = 37) := by show _ = _; rw [hy]; exact ntC_len n _ hs
  have KL := Lib.hid (keyC_len n.sum n.kn hs)
  have RX : Hid (w2.rangeAt b 3 (keyC n.sum n.kn)) := fun j v hv => (H.out.cellV 1 rfl (3 + j) (by rw [hx]; exact ntC_key n _ j v hv)).1
  have RY : Hid (w2.rangeAt c 3 (keyC n.sum n.kn)) := fun j v hv => (H.out.cellV 0 rfl (3 + j) (by rw [hy]; exact ntC_key n _ j v hv)).1
  obtain ⟨k, hk⟩ : ∃ k, k = n.kind.toNat := ⟨_, rfl⟩
  obtain ⟨ad, had⟩ : ∃ a, a = n.addr := ⟨_, rfl⟩
  obtain ⟨sq, hsq⟩ : ∃ a, a = n.seq := ⟨_, rfl⟩
  have cx : ∀ j v, x[j]? = some v → w2.cell? ⟨b, j, none⟩ = some v := fun j v h => (H.out.cellV 1 rfl j h).1
  have cy : ∀ j v, y[j]? = some v → w2.cell? ⟨c, j, none⟩ = some v := fun j v h => (H.out.cellV 0 rfl j h).1
  have x0 := cx 0 (.int .u8 (k : Int)) (by rw [hx, hk]; rfl)
  have x1 := cx 1 (.int .u32 (ad : Int)) (by rw [hx, had]; rfl)
  have x2 := cx 2 (.int .u64 (sq : Int)) (by rw [hx, hsq]; rfl)
  have x36 := cx 36 (.slice a1 len c1) (by rw [hx]; exact ntC_data n _ hs)
  have y0 := cy 0 (.int .u8 (k : Int)) (by rw [hy, hk]; rfl)
  have y1 := cy 1 (.int .u32 (ad : Int)) (by rw [hy, had]; rfl)
  have y2 := cy 2 (.int .u64 (sq : Int)) (by rw [hy, hsq]; rfl)
  have y36 := cy 36 (.slice a2 len c2) (by rw [hy]; exact ntC_data n _ hs)
  rw [hw2, hw1] at x0 x1 x2 x36 y0 y1 y2 y36
  rw [hcd, hw1] at y0 y1 y2 y36
  rw [hbd] at x0 x1 x2 x36
  simp only [World.size_alloc] at y0 y1 y2 y36
  have E1 : Hid (w1 = w.alloc (.cells x.toArray 58)) := hw1
  have E2 : Hid (w2 = (w.alloc (.cells x.toArray 58)).alloc (.cells y.toArray 58)) := by show _ = _; rw [hw2, hw1]
  have EB : Hid (b = w.heap.size) := hbd
  have EC : Hid (c = w.heap.size + 1) := by show _ = _; rw [hcd, hw1]; simp
  have KE : Hid ((decide (n.sum = n.sum) && decide (n.kn = n.kn)) = true) := by show _ = _; simp
  have HDD : Hid (decide (n.data = n.data) = true) := decide_eq_true rfl
  have BB := Lib.hid H.out.below
  clear hx hy hbox hw1 hw2 hbd hcd H h1 h2 hl hs cx cy hk had hsq
  go_enter Try.func23, Try.ntmps23
  go_wp2_with (first
    | (refine wpList_val rfl (load_key _ KL.out rfl _ (by rw [← E2.out]; exact RX.out) (by rw [EB.out]; rfl)) ?_)
    | (refine wpList_val rfl (load_key _ KL.out rfl _ (by rw [← E2.out]; exact RY.out) (by rw [EC.out]; rfl)) ?_)
    | (refine wpList_val rfl (eql_key rfl HS.out HS.out KE.out _ _ rfl rfl) ?_)
    | (refine Byt.wpList_str8 rfl (.tmp 33) rfl a1 len c1 rfl _ _ (by rw [← E2.out]; exact V1.out) HL.out ?_)
    | (refine Byt.wpList_str8 rfl (.tmp 36) rfl a2 len c2 rfl _ _ (by rw [← E2.out]; exact V2.out) HL.out ?_)
    | (refine Byt.wpList_val rfl (eql_str rfl _ _ true HDD.out _ _ rfl rfl) ?_))
  rw [← E2.out]
  go_ret
  exact ⟨rfl, BB.out⟩
end Rec
end Go.Proofs.Ytmdphcebmgcdbaa

end
section
namespace Go.Own
open Go.RowKit
/-- bytes that lie anywhere in blocks of one's own -/
def AView (ao : Option Addr) (l : List UInt8) : Asn where
  holds S w := View w S ao l ∧ ∀ k, S k → k < w.heap.size
  keep h g hd := ⟨h.1.step g hd, fun k hk => Nat.lt_of_lt_of_le (h.2 k hk) g.size⟩
  lt h := h.2
theorem St.adoptView {B : Nat} {w0 w1 w2 : World} {Ps : List Asn} (H : St B w0 w1 Ps) (g : Below w1.heap.size w1 w2) {ao : Option Addr} {l : List UInt8} (h : View w2 (fun k => w1.heap.size ≤ k) ao l) : St B w0 w2 (AView ao l :: Ps) :=
  H.adopt g (T := fun k => w1.heap.size ≤ k ∧ k < w2.heap.size) (AView ao l) ⟨h.live, fun _ hk => hk.2⟩ (fun _ hk => hk.1)
theorem St.viewAt {B : Nat} {w0 w : World} {Ps : List Asn} (H : St B w0 w Ps) (i : Nat) {ao : Option Addr} {l : List UInt8} (hi : Ps[i]? = some (AView ao l)) : View w (fun k => k < w.heap.size) ao l := by
  obtain ⟨S, hS, _⟩ := H.at i hi
  exact hS.1.mono hS.2
end Go.Own

end
section
namespace Go.Own
open Go.RowKit
/-- bytes (slices with their room) that lie anywhere in blocks of one's own -/
abbrev GSl := Option Addr × Nat × List UInt8
def GOk (w : World) (S : Nat → Prop) (g : GSl) : Prop := View w S g.1 g.2.2 ∧ g.2.2.length ≤ g.2.1 ∧ g.2.1 ≤ maxLen ∧ (g.1 = none → g.2.1 = 0)
def AGivens (gs : List GSl) : Asn where
  holds S w := (∀ g ∈ gs, GOk w S g) ∧ ∀ k, S k → k < w.heap.size
  keep h g hd := ⟨fun x hx => ⟨(h.1 x hx).1.step g hd, (h.1 x hx).2⟩, fun k hk => Nat.lt_of_lt_of_le (h.2 k hk) g.size⟩
  lt h := h.2
theorem St.givensNil {B : Nat} {w0 w : World} {Ps : List Asn} (H : St B w0 w Ps) : St B w0 w (AGivens [] :: Ps) :=
  H.new (S' := fun _ => False) (AGivens []) ⟨fun g hg => (by cases hg), fun _ h => h.elim⟩ (Step.refl (fun _ => False) w)
theorem St.givensJoin {B : Nat} {w0 w : World} {Ps : List Asn} {xs ys : List GSl} (H : St B w0 w (AGivens xs :: AGivens ys :: Ps)) : St B w0 w (AGivens (xs ++ ys) :: Ps) := by
  obtain ⟨hb, hs, S, ⟨S1, S2, h1, ⟨S3, S4, h3, h4, h5, h6⟩, h7, h8⟩, hB⟩ := H
  refine ⟨hb, hs, S, ⟨fun k => S1 k ∨ S3 k, S4, ⟨fun g hg => ?_, fun k hk => ?_⟩, h4, ?_, ?_⟩, hB⟩
  · rcases List.mem_append.1 hg with hg | hg
    · exact ⟨(h1.1 g hg).1.mono (fun _ hk => .inl hk), (h1.1 g hg).2⟩
    · exact ⟨(h3.1 g hg).1.mono (fun _ hk => .inr hk), (h3.1 g hg).2⟩
  · exact hk.elim (h1.2 k) (h3.2 k)
  · intro k hk hk4
    rcases hk with hk | hk
    · exact h7 k hk ((h6 k).2 (.inr hk4))
    · exact h5 k hk hk4
  · intro k
    rw [h8 k, h6 k]
    constructor
    · rintro (h | h | h)
      · exact .inl (.inl h)
      · exact .inl (.inr h)
      · exact .inr h
    · rintro ((h | h) | h)
      · exact .inl h
      · exact .inr (.inl h)
      · exact .inr (.inr h)
/-- one that may be read from now on -/
theorem St.givenAt {B : Nat} {w0 w : World} {Ps : List Asn} {gs : List GSl} (H : St B w0 w Ps) (i : Nat) (hi : Ps[i]? = some (AGivens gs)) (g : GSl) (hg : g ∈ gs) : View w (fun k => k < w.heap.size) g.1 g.2.2 ∧ g.2.2.length ≤ g.2.1 ∧ g.2.1 ≤ maxLen ∧ (g.1 = none → g.2.1 = 0) := by
  obtain ⟨S, hS, _⟩ := H.at i hi
  obtain ⟨h1, h2⟩ := hS.1 g hg
  exact ⟨h1.mono hS.2, h2⟩
end Go.Own
namespace Go.Proofs.Ytmdphcebmgcdbaa
open Go.RowKit Go.Own
namespace Lg
open Go.LogM Byt
abbrev errL (n : Nat) : Value := .int .i64 (n : Int)
abbrev i64L (n : Int) : Prop := -9223372036854775808 ≤ n ∧ n ≤ 9223372036854775807
abbrev ptr (p : Nat) : Value := .pointer (some ⟨p, 0, none⟩)
abbrev plcA (p : Plc) : Array Value := #[.int .i64 p.seg, .int .i64 p.page, .int .i64 p.pages]
def entC (e : Ent) (v : Value) : List Value := .int .i64 e.plc.seg :: .int .i64 e.plc.page :: .int .i64 e.plc.pages :: Rec.ntC e.note v
theorem entC_len (e : Ent) (v : Value) (h : e.note.sum.length = 32) : (entC e v).length = 40 := by unfold entC; simp [Rec.ntC_len _ _ h]
/-- entries, with the slices of their data -/
def gslV (g : GSl) : Value := .slice g.1 g.2.2.length g.2.1
def entsC (E : List Ent) (gs : List GSl) : List Value := (List.zipWith (fun e g => entC e (gslV g)) E gs).flatten
def mayL (fs : FlaM.FS) (tb : TabM.T) (fr : Int) : Bool := decide (0 ≤ fr) && decide (fr + (tb.rows.length : Int) ≤ (fs.safe.length : Int)) && decide (2 ≤ fs.pp)
structure Kept (W : World) (FK : Fla.Kept W) (TK : Tab.Kept W) where
  A : Nat → Nat → Nat → Nat → Nat → TabM.T → Nat → Asn
  new : ∀ {B : Nat} {w0 w : World} {Ps : List Asn} {pf pt : Nat} {fs : FlaM.FS} {tb : TabM.T} {N : Nat} (fr : Int), Below W.heap.size W w → Own.St B w0 w (FK.A pf fs :: TK.A pt tb :: Ps) → FlaM.Ok fs N → TabM.Ok tb N → N ≤ 9000 → i64L fr →
    Calls Try.prog 10 #[ptr pf, .int .i64 fr, ptr pt] w fun e w' => if mayL fs tb fr = true then ∃ p, e = .returned (.tuple #[ptr p, errL 0]) ∧ Own.St B w0 w' (A p pf pt fr.toNat fs.pp tb fs.pp :: FK.A pf fs :: TK.A pt tb :: Ps) else e = .returned (.tuple #[.pointer none, errL 1]) ∧ Own.St B w0 w' (FK.A pf fs :: TK.A pt tb :: Ps)
  newNilF : ∀ (fr : Int) (v : Value) (w : World), Calls Try.prog 10 #[.pointer none, .int .i64 fr, v] w fun e w' => e = .returned (.tuple #[.pointer none, errL 2]) ∧ Below w.heap.size w w'
  newNilT : ∀ (fr : Int) (p : Nat) (w : World), Calls Try.prog 10 #[ptr p, .int .i64 fr, .pointer none] w fun e w' => e = .returned (.tuple #[.pointer none, errL 2]) ∧ Below w.heap.size w w'
  append : ∀ {B : Nat} {w0 w : World} {Ps : List Asn} {p pf pt fr : Nat} {σ : LG} {N : Nat} (n : RecM.Nte) (ao : Option Addr) (len cap : Nat), Below W.heap.size W w → Own.St B w0 w (A p pf pt fr σ.fs.pp σ.tb σ.a :: FK.A pf σ.fs :: TK.A pt σ.tb :: Ps) → LgOk fr σ N → N ≤ 9000 → RecM.Fits n → Fla.Lies B w Ps ao len cap n.data → len ≤ 1000000 →
    Calls Try.prog 19 #[ptr p, Rec.ntV n (.slice ao len cap)] w fun e w' => e = .returned (.tuple #[.agg (plcA (appendL fr σ n).2.1), errL (appendL fr σ n).2.2]) ∧ Own.St B w0 w' (A p pf pt fr (appendL fr σ n).1.fs.pp (appendL fr σ n).1.tb (appendL fr σ n).1.a :: FK.A pf (appendL fr σ n).1.fs :: TK.A pt (appendL fr σ n).1.tb :: Ps)
  close : ∀ {B : Nat} {w0 w : World} {Ps : List Asn} {p pf pt fr : Nat} {σ : LG} {N : Nat}, Below W.heap.size W w → Own.St B w0 w (A p pf pt fr σ.fs.pp σ.tb σ.a :: FK.A pf σ.fs :: TK.A pt σ.tb :: Ps) → LgOk fr σ N → N ≤ 9000 →
    Calls Try.prog 18 #[ptr p] w fun e w' => e = .returned (errL (closeL σ).2) ∧ Own.St B w0 w' (A p pf pt fr (closeL σ).1.fs.pp (closeL σ).1.tb (closeL σ).1.a :: FK.A pf (closeL σ).1.fs :: TK.A pt (closeL σ).1.tb :: Ps)
  read : ∀ {B : Nat} {w0 w : World} {Ps : List Asn} {p pf pt fr : Nat} {σ : LG} {N : Nat} (x : Plc), Below W.heap.size W w → Own.St B w0 w (A p pf pt fr σ.fs.pp σ.tb σ.a :: FK.A pf σ.fs :: TK.A pt σ.tb :: Ps) → LgOk fr σ N → N ≤ 9000 → i64L x.seg → i64L x.page → i64L x.pages →
    Calls Try.prog 24 #[ptr p, .agg (plcA x)] w fun e w' => ∃ g : GSl, g.2.2 = (readL fr σ x).1.data ∧ e = .returned (.tuple #[Rec.ntV (readL fr σ x).1 (gslV g), errL (readL fr σ x).2]) ∧ Own.St B w0 w' (AGivens [g] :: A p pf pt fr σ.fs.pp σ.tb σ.a :: FK.A pf σ.fs :: TK.A pt σ.tb :: Ps)
  scan : ∀ {B : Nat} {w0 w : World} {Ps : List Asn} {p pf pt fr : Nat} {σ : LG} {N : Nat} (seg page : Int), Below W.heap.size W w → Own.St B w0 w (A p pf pt fr σ.fs.pp σ.tb σ.a :: FK.A pf σ.fs :: TK.A pt σ.tb :: Ps) → LgOk fr σ N → N ≤ 9000 → i64L seg → i64L page →
    Calls Try.prog 22 #[ptr p, .int .i64 seg, .int .i64 page] w fun e w' => ∃ (v : Value) (gs : List GSl), gs.map (fun g => g.2.2) = (scanL fr σ seg page).1.2.map (fun e => e.note.data) ∧ e = .returned (.tuple #[.int .u64 ((scanL fr σ seg page).1.1 : Int), v, errL (scanL fr σ seg page).2]) ∧
      Own.St B w0 w' (ARow 72 40 v (scanL fr σ seg page).1.2.length (entsC (scanL fr σ seg page).1.2 gs) :: AGivens gs :: A p pf pt fr σ.fs.pp σ.tb σ.a :: FK.A pf σ.fs :: TK.A pt σ.tb :: Ps)
  head : ∀ {B : Nat} {w0 w : World} {Ps : List Asn} {p pf pt fr : Nat} {σ : LG} {N : Nat}, Below W.heap.size W w → Own.St B w0 w (A p pf pt fr σ.fs.pp σ.tb σ.a :: FK.A pf σ.fs :: TK.A pt σ.tb :: Ps) → LgOk fr σ N → N ≤ 9000 →
    Calls Try.prog 25 #[ptr p] w fun e w' => e = .returned (.tuple #[.int .u64 ((headN σ).1 : Int), .int .i64 ((headN σ).2 : Int)]) ∧ Own.St B w0 w' (A p pf pt fr σ.fs.pp σ.tb σ.a :: FK.A pf σ.fs :: TK.A pt σ.tb :: Ps)
  nilAppend : ∀ (n : RecM.Nte) (ao : Option Addr) (len cap : Nat) (w : World), n.sum.length = 32 → Calls Try.prog 19 #[.pointer none, Rec.ntV n (.slice ao len cap)] w fun e w' => e = .returned (.tuple #[.agg (plcA zP), errL 2]) ∧ Below w.heap.size w w'
  nilClose : ∀ (w : World), Calls Try.prog 18 #[.pointer none] w fun e w' => e = .returned (errL 2) ∧ Below w.heap.size w w'
  nilRead : ∀ (x : Plc) (w : World), Calls Try.prog 24 #[.pointer none, .agg (plcA x)] w fun e w' => ∃ ao cap, e = .returned (.tuple #[Rec.ntV RecM.zeroN (.slice ao 0 cap), errL 2]) ∧ Below w.heap.size w w'
  nilScan : ∀ (seg page : Int) (w : World), Calls Try.prog 22 #[.pointer none, .int .i64 seg, .int .i64 page] w fun e w' => ∃ ao cap, e = .returned (.tuple #[.int .u64 0, .slice ao 0 cap, errL 2]) ∧ Below w.heap.size w w'
  nilHead : ∀ (w : World), Calls Try.prog 25 #[.pointer none] w fun e w' => e = .returned (.tuple #[.int .u64 0, .int .i64 0]) ∧ Below w.heap.size w w'
end Lg
end Go.Proofs.Ytmdphcebmgcdbaa

end
section
namespace Go.Own
open Go.RowKit
theorem St.wide {B : Nat} {W w0 w : World} {Ps : List Asn} (hW : Below W.heap.size W w0) (hB : W.heap.size ≤ B) (h : St B w0 w Ps) : Below W.heap.size W w := hW.trans (h.below.mono hB)
end Go.Own
namespace Go.Proofs.Ytmdphcebmgcdbaa
open Go.RowKit Go.Own
namespace Lg
open Go.LogM Byt
def RetYes (w : World) (e : Ending) (w' : World) : Prop := e = .returned (.bool true) ∧ Below w.heap.size w w'
theorem third {B : Nat} {w0 w : World} {x a b c : Asn} {Ps : List Asn} (h : Own.St B w0 w (x :: a :: b :: c :: Ps)) : Own.St B w0 w (a :: b :: c :: x :: Ps) := by
  refine h.perm ?_
  have h1 : (x :: a :: b :: c :: Ps).Perm (a :: x :: b :: c :: Ps) := List.Perm.swap _ _ _
  have h2 : (a :: x :: b :: c :: Ps).Perm (a :: b :: x :: c :: Ps) := (List.Perm.swap _ _ _).cons _
  have h3 : (a :: b :: x :: c :: Ps).Perm (a :: b :: c :: x :: Ps) := ((List.Perm.swap _ _ _).cons _).cons _
  exact (h1.trans h2).trans h3
abbrev LSt {W : World} {FK : Fla.Kept W} {TK : Tab.Kept W} (K : Kept W FK TK) (B : Nat) (w0 w : World) (p pf pt fr : Nat) (σ : LG) (Ps : List Asn) : Prop := Own.St B w0 w (K.A p pf pt fr σ.fs.pp σ.tb σ.a :: FK.A pf σ.fs :: TK.A pt σ.tb :: Ps)
def sNew (segs pages : Nat) : LG := ⟨FlaM.fresh (segs + 1) pages, TabM.fresh segs, pages⟩
set_option maxRecDepth 10000 in
set_option maxHeartbeats 4000000 in
theorem built_any {W : World} {FK : Fla.Kept W} {TK : Tab.Kept W} (K : Kept W FK TK) {B : Nat} {w0 w : World} {Ps : List Asn} (segs pages : Nat) (hs : segs ≤ 255) (hp : 2 ≤ pages ∧ pages ≤ 64) (hW : Below W.heap.size W w0) (hB : W.heap.size ≤ B) (H : Own.St B w0 w Ps) :
    Calls Try.prog 14 #[.int .i64 (segs : Int), .int .i64 (pages : Int)] w fun e w' => ∃ p pf pt, e = .returned (.tuple #[ptr p, ptr pf, ptr pt, .bool true]) ∧ LSt K B w0 w' p pf pt 1 (sNew segs pages) Ps := by
  have hm1 : FlaM.mayBe ((segs : Int) + 1) (pages : Int) = true := by unfold FlaM.mayBe; simp; omega
  have hm2 : TabM.mayBe (segs : Int) = true := by unfold TabM.mayBe; simp; omega
  have hm3 : mayL (FlaM.fresh (segs + 1) pages) (TabM.fresh segs) 1 = true := by
    unfold mayL FlaM.fresh TabM.fresh
    simp
    omega
  have ok1 : FlaM.Ok (FlaM.fresh (segs + 1) pages) 1 := (FlaM.ok_fresh (segs + 1) pages (by omega) (by omega)).more (by omega)
  have ok2 : TabM.Ok (TabM.fresh segs) 1 := (TabM.ok_fresh segs (by omega)).more (by omega)
  have c0 := FK.new ((segs : Int) + 1) (pages : Int) (H.wide hW hB) H (by unfold Fla.i64B; omega) (by unfold Fla.i64B; omega)
  rw [hm1] at c0
  simp only [if_true] at c0
  rw [show ((segs : Int) + 1).toNat = segs + 1 by omega, show ((pages : Int)).toNat = pages by omega] at c0
  have C0 := Lib.hid c0
  have C1 : Hid (∀ pf wx, Own.St B w0 wx (FK.A pf (FlaM.fresh (segs + 1) pages) :: Ps) → Calls Try.prog 9 #[.int .i64 (segs : Int)] wx fun e w' => ∃ p, e = .returned (.tuple #[ptr p, errL 0]) ∧ Own.St B w0 w' (FK.A pf (FlaM.fresh (segs + 1) pages) :: TK.A p (TabM.fresh segs) :: Ps)) := fun pf wx h => by
    have c := TK.new (segs : Int) (h.wide hW hB) h (by unfold Tab.i64T; omega)
    rw [hm2] at c
    simp only [if_true] at c
    rw [show ((segs : Int)).toNat = segs by omega] at c
    exact c.mono fun e w' ⟨p, h1, h2⟩ => ⟨p, h1, h2.swap2⟩
  have C2 : Hid (∀ pf pt wx, Own.St B w0 wx (FK.A pf (FlaM.fresh (segs + 1) pages) :: TK.A pt (TabM.fresh segs) :: Ps) → Calls Try.prog 10 #[ptr pf, .int .i64 1, ptr pt] wx fun e w' => ∃ p, e = .returned (.tuple #[ptr p, errL 0]) ∧ LSt K B w0 w' p pf pt 1 (sNew segs pages) Ps) := fun pf pt wx h => by
    have c := K.new 1 (h.wide hW hB) h ok1 ok2 (by decide) (by decide)
    rw [hm3] at c
    simp only [if_true] at c
    exact c
  clear c0 hm1 hm2 hm3 ok1 ok2 H hW hB
  go_enter Try.func14, Try.ntmps14
  go_wp2_with (fail)
  refine C0.out.mono ?_
  clear C0
  rintro e w1 ⟨pf, rfl, h1⟩
  have H1 := Lib.hid h1
  clear h1
  go_wp2_with (fail)
  refine (C1.out pf w1 H1.out).mono ?_
  clear C1 H1
  rintro e w2 ⟨pt, rfl, h2⟩
  have H2 := Lib.hid h2
  clear h2
  go_wp2_with (fail)
  refine (C2.out pf pt w2 H2.out).mono ?_
  clear C2 H2
  rintro e w3 ⟨p, rfl, h3⟩
  have H3 := Lib.hid h3
  clear h3
  go_wp2_with (fail)
  refine bodyPost_ret (results_four rfl _ _ rfl rfl rfl rfl) rfl ?_
  exact ⟨p, pf, pt, rfl, H3.out⟩
theorem plc_fields : (Try.prog.fieldsOf 60).toList.map (fun f => (f.name, f.type, f.offset)) = [("Seg", 3, 0), ("Page", 3, 1), ("Pages", 3, 2)] := by kernel_rfl
theorem part_plc (p : Plc) (w : World) : (part 3 (plcA p) 0).run Try.prog w = .ok (.int .i64 p.seg) w ∧ (part 3 (plcA p) 1).run Try.prog w = .ok (.int .i64 p.page) w ∧ (part 3 (plcA p) 2).run Try.prog w = .ok (.int .i64 p.pages) w := by
  have h1 : ∀ w, (isAgg 3).run Try.prog w = .ok false w := fun w => by kernel_rfl
  refine ⟨?_, ?_, ?_⟩ <;> (unfold part; simp only [Sem.run_bind, h1, Result.andThen_ok, Bool.false_eq_true, if_false]; rfl)
def eqP (a b : Plc) : Bool := decide (a.seg = b.seg) && decide (a.page = b.page) && decide (a.pages = b.pages)
theorem eqP_self (a : Plc) : eqP a a = true := by simp [eqP]
theorem run_eq_plc (a b : Plc) (w : World) : (Op.equalIn 10000 60 (.agg (plcA a)) (.agg (plcA b))).run Try.prog w = .ok (eqP a b) w := by
  have ht : Try.prog.underlying 60 = some (.struct (Try.prog.fieldsOf 60)) := by kernel_rfl
  have hp : Try.prog.stoodInHeld 60 = false := by kernel_rfl
  have h := run_equalIn_struct (P := Try.prog) w 9999 60 (plcA a) (plcA b) ht hp
  rw [h]
  have hf := plc_fields
  obtain ⟨a0, a1, a2⟩ := part_plc a w
  obtain ⟨b0, b1, b2⟩ := part_plc b w
  match hl : (Try.prog.fieldsOf 60).toList with
  | [] => rw [hl] at hf; simp at hf
  | [_] => rw [hl] at hf; simp at hf
  | [_, _] => rw [hl] at hf; simp at hf
  | _ :: _ :: _ :: _ :: _ => rw [hl] at hf; simp at hf
  | [f0, f1, f2] =>
    rw [hl] at hf
    simp only [List.map_cons, List.map_nil, List.cons.injEq, Prod.mk.injEq, and_true] at hf
    obtain ⟨⟨n0, t0, o0⟩, ⟨n1, t1, o1⟩, n2, t2, o2⟩ := hf
    have hi : ∀ (d : Nat) (x y : Int), (Op.equalIn (d + 1) 3 (.int .i64 x) (.int .i64 y)).run Try.prog w = .ok (decide (x = y)) w := fun d x y => run_equalIn_int (P := Try.prog) w d 3 .i64 .i64 x y Try.underlying3
    have i0 := hi 9998 a.seg b.seg
    have i1 := hi 9998 a.page b.page
    have i2 := hi 9998 a.pages b.pages
    simp only [Op.eqFields, n0, t0, o0, n1, t1, o1, n2, t2, o2, ne_eq, String.reduceEq, not_false_eq_true, if_true, Sem.run_bind, a0, b0, Result.andThen_ok]
    rw [i0]
    unfold eqP
    by_cases h0 : a.seg = b.seg
    · simp only [h0, decide_true, Result.andThen_ok, Bool.not_true, Bool.false_eq_true, if_false, Sem.run_bind, a1, b1, Bool.true_and]
      rw [i1]
      by_cases h1 : a.page = b.page
      · simp only [h1, decide_true, Result.andThen_ok, Bool.not_true, Bool.false_eq_true, if_false, Sem.run_bind, a2, b2, Bool.true_and]
        rw [i2]
        by_cases h2 : a.pages = b.pages
        · simp [h2]
        · simp [h2]
      · simp [h1]
    · simp [h0]
theorem eq_plc (a b : Plc) {v : Bool} (hv : eqP a b = v) (w : World) : (Op.equalIn 10000 60 (.agg (plcA a)) (.agg (plcA b))).run Try.prog w = .ok v w := by rw [run_eq_plc, hv]
end Lg
end Go.Proofs.Ytmdphcebmgcdbaa

end
section
namespace Go.Proofs.Ytmdphcebmgcdbaa
open Go.RowKit Go.Own
namespace Lg
open Go.LogM Byt
theorem range_box {B : Nat} {w0 w : World} {Ps : List Asn} {b : Nat} {t : TypeId} {cs : List Value} (H : Own.St B w0 w Ps) (i : Nat) (hi : Ps[i]? = some (AVals b t cs)) : w.rangeAt b 0 cs := fun j v hv => by
  rw [Nat.zero_add]
  exact (H.cellV i hi j hv).1
theorem info_plc (cs : List Value) (h : cs.length = 3) : (Try.prog.info? 60).map (·.size) = some cs.length := by
  have h0 : (Try.prog.info? 60).map (fun i => i.size) = some 3 := by kernel_rfl
  rw [h]; exact h0
theorem built_nd (k : Int) : Try.prog.built 58 [(0, .int .u8 3), (2, .int .u64 k)] = some (.int .u8 3 :: .int .u32 0 :: .int .u64 k :: ((RecM.zsum.map byteV ++ [.int .u32 0]) ++ [.slice none 0 0])).toArray := by kernel_rfl
theorem built_ndi (i : Nat) : Try.prog.built 58 [(0, .int .u8 3), (2, .int .u64 (i : Int))] = some (Rec.ntC (nD i) (.slice none 0 0)).toArray := built_nd (i : Int)
def wants : List Value := (plcA (want 0)).toList ++ (plcA (want 1)).toList ++ (plcA (want 2)).toList ++ (plcA (want 3)).toList
theorem wants_at (i j : Nat) (hi : i < 4) (v : Value) (hv : (plcA (want i)).toList[j]? = some v) : wants[i * 3 + j]? = some v := by
  have hj : j < 3 := by have := (List.getElem?_eq_some_iff.1 hv).1; simpa using this
  rcases (show i = 0 ∨ i = 1 ∨ i = 2 ∨ i = 3 by omega) with rfl | rfl | rfl | rfl <;> rcases (show j = 0 ∨ j = 1 ∨ j = 2 by omega) with rfl | rfl | rfl <;> exact hv
set_option maxRecDepth 10000 in
set_option maxHeartbeats 4000000 in
theorem shown_any {W : World} {FK : Fla.Kept W} {TK : Tab.Kept W} (K : Kept W FK TK) {w : World} (hW : Below W.heap.size W w) :
    Calls Try.prog 7 #[] w (RetYes w) := by
  have CB := Lib.hid (built_any K 2 4 (by decide) (by decide) hW hW.size (Own.St.start w))
  obtain ⟨cw, hcw⟩ : ∃ c, c = wants := ⟨_, rfl⟩
  have CA : Hid (∀ (i p pf pt : Nat) (Ps : List Asn) (wx : World), i < 4 → LSt K w.heap.size w wx p pf pt 1 (xs i) Ps → Calls Try.prog 19 #[ptr p, .agg (Rec.ntC (nD i) (.slice none 0 0)).toArray] wx fun e w' => e = .returned (.tuple #[.agg (plcA (want i)), errL 0]) ∧ LSt K w.heap.size w w' p pf pt 1 (xs (i + 1)) Ps) := by
    intro i p pf pt Ps wx hi h
    have c := K.append (nD i) none 0 0 (h.wide hW hW.size) h (xs_ok i (by omega)) (by omega) (nD_good i (by omega)).fits ⟨⟨.inl rfl, rfl, ⟨Nat.le_refl _, Nat.zero_le _⟩, fun _ => rfl⟩, .inr (.inl rfl)⟩ (by decide)
    rw [ex_step i hi] at c
    exact c
  have CH : Hid (∀ (p pf pt bR : Nat) (wx : World), LSt K w.heap.size w wx p pf pt 1 (xs 4) [AVals bR 60 cw] → Calls Try.prog 25 #[ptr p] wx fun e w' => e = .returned (.tuple #[.int .u64 2, .int .i64 2]) ∧ LSt K w.heap.size w w' p pf pt 1 (xs 4) [AVals bR 60 cw]) := by
    intro p pf pt bR wx h
    have c := K.head (h.wide hW hW.size) h (xs_ok 4 (Nat.le_refl _)) (by decide)
    have e : headN (xs 4) = (2, 2) := ex4
    rw [e] at c
    exact c
  have HCW := Lib.hid hcw
  have WA : Hid (∀ i j v, i < 4 → (plcA (want i)).toList[j]? = some v → cw[i * 3 + j]? = some v) := fun i j v hi hv => by rw [hcw]; exact wants_at i j hi v hv
  clear hW hcw
  go_enter Try.func7, Try.ntmps7
  go_wp2_with (fail)
  refine CB.out.mono ?_
  clear CB
  rintro e w1 ⟨p, pf, pt, rfl, h1⟩
  have H1 := Lib.hid h1
  clear h1
  have hsw : Own.St w.heap.size w (w1.alloc (.cells cw.toArray 60)) (AVals w1.heap.size 60 cw :: K.A p pf pt 1 (xs 0).fs.pp (xs 0).tb (xs 0).a :: FK.A pf (xs 0).fs :: TK.A pt (xs 0).tb :: []) := H1.out.boxV 60 cw
  have H2 : Hid (LSt K w.heap.size w (w1.alloc (.cells #[.int .i64 0, .int .i64 1, .int .i64 1, .int .i64 0, .int .i64 2, .int .i64 1, .int .i64 0, .int .i64 3, .int .i64 1, .int .i64 1, .int .i64 1, .int .i64 1] 60)) p pf pt 1 (xs 0) [AVals w1.heap.size 60 cw]) := by
    have e : cw.toArray = #[.int .i64 0, .int .i64 1, .int .i64 1, .int .i64 0, .int .i64 2, .int .i64 1, .int .i64 0, .int .i64 3, .int .i64 1, .int .i64 1, .int .i64 1, .int .i64 1] := by rw [HCW.out]; rfl
    rw [e] at hsw
    exact third hsw
  obtain ⟨bR, hbR⟩ : ∃ b, b = w1.heap.size := ⟨_, rfl⟩
  have HBR := Lib.hid hbR
  rw [← hbR] at H2
  clear hsw H1 hbR HCW
  go_wp2_with (fail)
  rw [← HBR.out]
  go_loopw [25] (fun v25 wr => ∃ i : Nat, i ≤ 4 ∧ v25 = .int .i64 (i : Int) ∧ LSt K w.heap.size w wr p pf pt 1 (xs i) [AVals bR 60 cw]) (fun v _ => 4 - (intOf v).toNat)
  case atStart => exact ⟨0, Nat.zero_le _, rfl, H2.out⟩
  case round =>
    obtain ⟨i, hi4, rfl, hH⟩ := hrel
    have H := Lib.hid hH
    clear hH H2
    by_cases hi : (i : Int) < 4
    · have hin : i < 4 := by omega
      obtain ⟨pl, hpl⟩ : ∃ q, q = want i := ⟨_, rfl⟩
      have RG : Hid (wr.rangeAt bR (i * 3) (plcA pl).toList) := by
        intro j v hv
        rw [hpl] at hv
        exact (H.out.cellV 3 rfl _ (WA.out i j v hin hv)).1
      have hbx : Own.St w.heap.size w (wr.alloc (.cells (plcA pl) 60)) (AVals wr.heap.size 60 (plcA pl).toList :: K.A p pf pt 1 (xs i).fs.pp (xs i).tb (xs i).a :: FK.A pf (xs i).fs :: TK.A pt (xs i).tb :: [AVals bR 60 cw]) := H.out.boxV 60 (plcA pl).toList
      have ca := CA.out i p pf pt _ _ hin (third hbx)
      rw [← hpl] at ca
      obtain ⟨cn, hcn⟩ : ∃ c, c = (Rec.ntC (nD i) (.slice none 0 0)).toArray := ⟨_, rfl⟩
      rw [← hcn] at ca
      have BE : Hid (Try.prog.built 58 [(0, .int .u8 3), (2, .int .u64 (i : Int))] = some cn) := by rw [hcn]; exact built_ndi i
      have CA1 := Lib.hid ca
      obtain ⟨b6, hb6⟩ : ∃ b, b = wr.heap.size := ⟨_, rfl⟩
      have HB6 := Lib.hid hb6
      have heq : ∀ wx, (Op.equalIn 10000 60 (.agg (plcA pl)) (.agg (plcA pl))).run Try.prog wx = .ok true wx := fun wx => eq_plc pl pl (eqP_self pl) wx
      have IP := Lib.hid (info_plc (plcA pl).toList rfl)
      clear hpl hbx ca hcn hb6
      go_wp2_with (first
        | (refine wpList_load_mid rfl 60 (.tmp 28) rfl bR (i * 3) rfl (plcA pl).toList _ RG.out Try.underlying60 rfl IP.out ?_)
        | (refine Own.wpList_built rfl 58 #[(0, .const (.int .u8 3)), (2, .tmp 33)] rfl cn ?_ ?_; · (simp only [List.map_toArray, List.map_cons, List.map_nil, List.toList_toArray]; exact BE.out)))
      refine CA1.out.mono ?_
      clear CA1 RG BE IP
      rintro e w3 ⟨rfl, h3⟩
      rw [← HB6.out] at h3 ⊢
      have g3 := h3.alloc (.cells (plcA pl) 60)
      have q0 := (g3.cellV 3 rfl 0 rfl).1
      have q1 := (g3.cellV 3 rfl 1 rfl).1
      have q2 := (g3.cellV 3 rfl 2 rfl).1
      have H4 := Lib.hid g3
      clear h3 g3 H
      go_wp2_with (fail)
      go_roundw
      case rel =>
        refine ⟨i + 1, by omega, by go_num, ?_⟩
        exact (H4.out.front 3 rfl).drop 1
      case measure => simp [intOf]; omega
    · have hi4' : i = 4 := by omega
      subst hi4'
      have CH1 := Lib.hid (CH.out p pf pt bR wr H.out)
      clear CA CH WA H
      go_wp2_with (fail)
      refine CH1.out.mono ?_
      clear CH1
      rintro e w5 ⟨rfl, h5⟩
      have H5 := Lib.hid h5
      clear h5
      go_wp2
      go_ret
      exact ⟨rfl, H5.out.below⟩
end Lg
end Go.Proofs.Ytmdphcebmgcdbaa

end
section
namespace Go.Proofs.Ytmdphcebmgcdbaa
open Go.RowKit Go.Own
namespace Lg
open Go.LogM Byt
structure ActD where
  kind : UInt8
  n : RecM.Nte
  p : Plc
  at_ : Int
  c : UInt8
  fates : List Int
def actB (a : ActD) (fv : Value) : List Value := [.int .i64 a.p.seg, .int .i64 a.p.page, .int .i64 a.p.pages, .int .i64 a.at_, .int .u8 (a.c.toNat : Int), fv]
def actC (a : ActD) (dv fv : Value) : List Value := .int .u8 (a.kind.toNat : Int) :: (Rec.ntC a.n dv ++ actB a fv)
theorem actC_len (a : ActD) (dv fv : Value) (h : a.n.sum.length = 32) : (actC a dv fv).length = 44 := by unfold actC actB; simp [Rec.ntC_len _ _ h]
theorem actC_note (a : ActD) (dv fv : Value) (j : Nat) (v : Value) (h : (Rec.ntC a.n dv)[j]? = some v) : (actC a dv fv)[1 + j]? = some v := by
  unfold actC
  rw [Nat.add_comm, List.getElem?_cons_succ, List.getElem?_append_left (List.getElem?_eq_some_iff.1 h).1]
  exact h
theorem actC_more (a : ActD) (dv fv : Value) (hs : a.n.sum.length = 32) (j : Nat) (v : Value) (h : (actB a fv)[j]? = some v) : (actC a dv fv)[38 + j]? = some v := by
  unfold actC
  rw [show 38 + j = (37 + j) + 1 by omega, List.getElem?_cons_succ, List.getElem?_append_right (by rw [Rec.ntC_len _ _ hs]; omega), Rec.ntC_len _ _ hs, show 37 + j - 37 = j by omega]
  exact h
theorem view_nilL (w : World) (ao : Option Addr) : View w (fun _ => False) ao [] := .inl rfl
set_option maxRecDepth 10000 in
set_option maxHeartbeats 8000000 in
theorem walk_nil {W : World} {FK : Fla.Kept W} {TK : Tab.Kept W} (K : Kept W FK TK) (a : ActD) (ad af : Option Addr) (nd cd nf cf : Nat) (hs : a.n.sum.length = 32) {w : World} (hW : Below W.heap.size W w) :
    Calls Try.prog 5 #[.agg (actC a (.slice ad nd cd) (.slice af nf cf)).toArray] w (RetYes w) := by
  obtain ⟨cs, hcs⟩ : ∃ c, c = actC a (.slice ad nd cd) (.slice af nf cf) := ⟨_, rfl⟩
  rw [← hcs]
  have hbox := (Own.St.start w).boxV 62 cs
  obtain ⟨b, hb⟩ : ∃ b, b = w.heap.size := ⟨_, rfl⟩
  obtain ⟨w1, hw1⟩ : ∃ w1, w1 = w.alloc (.cells cs.toArray 62) := ⟨_, rfl⟩
  rw [← hb, ← hw1] at hbox
  rw [hb] at hbox
  have CS := Lib.hid ((shown_any K (hW.trans (hbox.below.mono hW.size))))
  have NT : Hid (∀ wx, Below w1.heap.size w1 wx → wx.rangeAt w.heap.size 1 (Rec.ntC a.n (.slice ad nd cd))) := fun wx hwx j v hv => ((hbox.later hwx).cellV 0 rfl (1 + j) (by rw [hcs]; exact actC_note a _ _ j v hv)).1
  have PT : Hid (∀ wx, Below w1.heap.size w1 wx → wx.rangeAt w.heap.size 38 (plcA a.p).toList) := fun wx hwx j v hv => ((hbox.later hwx).cellV 0 rfl (38 + j) (by rw [hcs]; exact actC_more a _ _ hs j v (by
    have hj : j < 3 := by have := (List.getElem?_eq_some_iff.1 hv).1; simpa using this
    rcases (show j = 0 ∨ j = 1 ∨ j = 2 by omega) with rfl | rfl | rfl <;> exact hv))).1
  have CA : Hid (∀ wx, Calls Try.prog 19 #[.pointer none, .agg (Rec.ntC a.n (.slice ad nd cd)).toArray] wx fun e w' => e = .returned (.tuple #[.agg (plcA zP), errL 2]) ∧ Below wx.heap.size wx w') := fun wx => K.nilAppend a.n ad nd cd wx hs
  have CR : Hid (∀ wx, Calls Try.prog 24 #[.pointer none, .agg (plcA a.p)] wx fun e w' => ∃ ao cap, e = .returned (.tuple #[.agg (Rec.ntC RecM.zeroN (.slice ao 0 cap)).toArray, errL 2]) ∧ Below wx.heap.size wx w') := fun wx => K.nilRead a.p wx
  have CC : Hid (∀ wx, Calls Try.prog 22 #[.pointer none, .int .i64 a.p.seg, .int .i64 a.p.page] wx fun e w' => ∃ ao cap, e = .returned (.tuple #[.int .u64 0, .slice ao 0 cap, errL 2]) ∧ Below wx.heap.size wx w') := fun wx => K.nilScan _ _ wx
  have CH := Lib.hid K.nilHead
  have CL := Lib.hid K.nilClose
  have HB := Lib.hid hbox
  have HW1 := Lib.hid hw1
  have NL : Hid ((Rec.ntC a.n (.slice ad nd cd)).length = 37) := Rec.ntC_len _ _ hs
  obtain ⟨nn, hnn⟩ : ∃ n, n = Rec.ntC a.n (.slice ad nd cd) := ⟨_, rfl⟩
  rw [← hnn] at NT CA NL
  have IN := Lib.hid (Rec.info_note nn NL.out)
  have IP := Lib.hid (info_plc (plcA a.p).toList rfl)
  obtain ⟨z, hz⟩ : ∃ z, z = Rec.ntC RecM.zeroN Rec.nilV := ⟨_, rfl⟩
  have HZ2 : Hid ((Try.prog.info? 58).bind (·.zero) = some (.agg z.toArray)) := by rw [hz]; exact Rec.zero_note
  have HZ0 : Hid (Try.prog.built 58 [] = some z.toArray) := by rw [hz]; exact Rec.built_note0
  have HZ := Lib.hid hz
  have ZL : Hid (z.length = 37) := by show _ = _; rw [hz]; exact Rec.ntC_len _ _ rfl
  have heq : ∀ wx, (Op.equalIn 10000 60 (.agg #[.int .i64 0, .int .i64 0, .int .i64 0]) (.agg #[.int .i64 0, .int .i64 0, .int .i64 0])).run Try.prog wx = .ok true wx := fun wx => eq_plc zP zP (eqP_self zP) wx
  have HCS := Lib.hid hcs
  have HS := Lib.hid hs
  clear hbox hcs hb hw1 hnn hz hW hs
  go_enter Try.func5, Try.ntmps5
  go_wp2_with (fail)
  rw [← HW1.out]
  refine CS.out.mono ?_
  clear CS
  rintro e w2 ⟨rfl, hb2⟩
  have HB2 := Lib.hid hb2
  have R2 := Lib.hid (NT.out w2 hb2)
  clear hb2
  go_wp2_with (first
    | (refine wpList_load_mid rfl 58 (.tmp 17) rfl w.heap.size 1 rfl nn _ R2.out Try.underlying58 rfl IN.out ?_))
  refine (CA.out _).mono ?_
  clear CA R2 NT
  rintro e w3 ⟨rfl, hb3⟩
  have HB3 := Lib.hid (HB2.out.trans (hb3.mono HB2.out.size))
  have hs3 := (HB.out.later HB3.out).boxV 60 (plcA zP).toList
  obtain ⟨b3, hb3'⟩ : ∃ b, b = w3.heap.size := ⟨_, rfl⟩
  have HBP := Lib.hid hb3'
  rw [← hb3'] at hs3
  have HP3 := Lib.hid hs3
  have HB4 := Lib.hid (HB3.out.trans (((Own.St.start w3).boxV 60 (plcA zP).toList).below.mono HB3.out.size))
  have R4 := Lib.hid (PT.out _ HB4.out)
  clear hb3 hs3 hb3'
  go_wp2_with (first
    | (refine wpList_load_mid rfl 60 (.tmp 24) rfl w.heap.size 38 rfl (plcA a.p).toList _ R4.out Try.underlying60 rfl IP.out ?_))
  refine (CR.out _).mono ?_
  clear CR R4
  rintro e w5 ⟨ao, cap, rfl, hb5⟩
  have HB5 := Lib.hid (HB4.out.trans (hb5.mono HB4.out.size))
  have h5 := HP3.out.later hb5
  obtain ⟨rn, hrn⟩ : ∃ r, r = Rec.ntC RecM.zeroN (.slice ao 0 cap) := ⟨_, rfl⟩
  have hrl : rn.length = 37 := by rw [hrn]; exact Rec.ntC_len _ _ rfl
  have RO : Hid (rn.toArray.all (·.oneCell') = true) := by rw [hrn]; exact all_oneCell_toArray (Rec.ntC_one rfl)
  rw [← hrn]
  obtain ⟨b7, hb7⟩ : ∃ b, b = w5.heap.size := ⟨_, rfl⟩
  obtain ⟨W6, hW6⟩ : ∃ W, W = w5.alloc (.cells z.toArray 58) := ⟨_, rfl⟩
  have h6 := h5.boxV 58 z
  rw [← hb7, ← hW6] at h6
  have TH := Lib.hid (h6.thereV 0 rfl (n := rn.toArray.size) (by rw [List.size_toArray, hrl, ZL.out]; exact Nat.le_refl _))
  have h7 := Own.St.setAll 0 rn 0 W6 _ z h6 rfl (by rw [hrl, ZL.out])
  simp only [List.set_cons_zero, List.take_zero, List.nil_append] at h7
  obtain ⟨W7, hW7⟩ : ∃ W, W = W6.setCells b7 0 rn.toArray.toList := ⟨_, rfl⟩
  have h7' : Own.St w.heap.size w W7 [AVals b7 58 rn, AVals b3 60 (plcA zP).toList, AVals w.heap.size 62 cs] := by rw [hW7, List.toList_toArray]; exact h7
  have H7 := Lib.hid h7'
  have HB7 := Lib.hid hb7
  have HW6 := Lib.hid hW6
  have HW7 := Lib.hid hW7
  have IR := Lib.hid (Rec.info_noteA rn hrl)
  have HRN := Lib.hid hrn
  have RL := Lib.hid hrl
  have d0 : W7.cell? ⟨w.heap.size, 38, none⟩ = some (.int .i64 a.p.seg) := (h7'.cellV 2 rfl 38 (by rw [HCS.out]; exact actC_more a _ _ HS.out 0 _ rfl)).1
  have d1 : W7.cell? ⟨w.heap.size, 39, none⟩ = some (.int .i64 a.p.page) := (h7'.cellV 2 rfl 39 (by rw [HCS.out]; exact actC_more a _ _ HS.out 1 _ rfl)).1
  clear hb5 h5 hrn hrl hb7 hW6 h6 h7 hW7 h7' HP3 HB5
  go_wp2_with (first
    | (refine Own.wpList_allocZ rfl 58 rfl z.toArray HZ2.out ?_; rw [← HB7.out, ← HW6.out])
    | (refine wpList_store_mid rfl 58 (.tmp 7) (.tmp 27) rfl b7 0 rn.toArray rfl rfl TH.out IR.out RO.out ?_; rw [← HW7.out]))
  refine (CC.out _).mono ?_
  clear CC d0 d1 TH
  rintro e w8 ⟨ao8, cap8, rfl, hb8⟩
  have H8 := Lib.hid (H7.out.later hb8)
  clear hb8 H7
  go_wp2_with (fail)
  refine (CH.out _).mono ?_
  clear CH
  rintro e w9 ⟨rfl, hb9⟩
  have H9 := Lib.hid (H8.out.later hb9)
  clear hb9 H8
  have q0 := (H9.out.cellV 1 rfl 0 rfl).1
  have q1 := (H9.out.cellV 1 rfl 1 rfl).1
  have q2 := (H9.out.cellV 1 rfl 2 rfl).1
  have RN : Hid (w9.rangeAt b7 0 rn) := range_box H9.out 0 rfl
  have CSm : Hid (Calls Try.prog 23 #[.agg rn.toArray, .agg z.toArray] w9 fun e w' => e = .returned (.bool true) ∧ Below w9.heap.size w9 w') := by
    rw [HRN.out, HZ.out]
    exact Rec.same_self RecM.zeroN rfl ao none 0 cap 0 w9 (D1 := fun _ => False) (D2 := fun _ => False) (view_nilL _ _) (.inl rfl) rfl
  rw [← HBP.out]
  go_wp2_with (first
    | (refine Byt.wpList_val rfl (Rec.load_note rn RL.out rfl _ RN.out rfl) ?_)
    | (refine Byt.wpList_val rfl (Own.build_e rfl z.toArray _ _ (by simp only [List.map_toArray, List.map_nil, List.toList_toArray]; exact HZ0.out)) ?_))
  refine CSm.out.mono ?_
  clear CSm RN q0 q1 q2
  rintro e w10 ⟨rfl, hb10⟩
  have H10 := Lib.hid (H9.out.later hb10)
  clear hb10 H9
  go_wp2_with (fail)
  refine (CL.out _).mono ?_
  clear CL
  rintro e w11 ⟨rfl, hb11⟩
  have H11 := Lib.hid (H10.out.later hb11)
  clear hb11 H10
  go_wp2
  go_ret
  exact ⟨rfl, H11.out.below⟩
end Lg
end Go.Proofs.Ytmdphcebmgcdbaa

end
section
namespace Go.Proofs.Ytmdphcebmgcdbaa
open Go.RowKit Go.Own
namespace Lg
open Go.LogM Byt
/-- an act in memory, below B -/
structure ActIn (B : Nat) (w : World) (a : ActD) (ad : Option Addr) (cd : Nat) : Prop where
  view : View w (fun k => k < B) ad a.n.data
  room : a.n.data.length ≤ cd ∧ cd ≤ maxLen
  nil : ad = none → cd = 0
  fits : RecM.Fits a.n
  p : i64L a.p.seg ∧ i64L a.p.page ∧ i64L a.p.pages
def inAct : InT ActD := fun a B w cs => ∃ ad cd af nf cf, cs = actC a (.slice ad a.n.data.length cd) (.slice af nf cf) ∧ ActIn B w a ad cd
theorem ActIn.below {B : Nat} {w w' : World} {a : ActD} {ad : Option Addr} {cd : Nat} (h : ActIn B w a ad cd) (g : ∀ k, k < B → w'.heap[k]? = w.heap[k]?) : ActIn B w' a ad cd :=
  ⟨h.view.same g, h.room, h.nil, h.fits, h.p⟩
theorem acts_in {l : List ActD} {B : Nat} {w : World} {ao : Option Addr} {n cap : Nat} (h : inSlice 44 inAct l B w [.slice ao n cap]) :
    n = l.length ∧ n ≤ cap ∧ cap ≤ maxLen ∧ (ao = none → cap = 0) ∧ (l ≠ [] → ∃ b o, ao = some ⟨b, o, none⟩ ∧ b < B ∧ ∀ w' : World, (∀ k, k < B → w'.heap[k]? = w.heap[k]?) → ∀ k (hk : k < l.length), ∃ ad cd af nf cf, w'.rangeAt b (o + k * 44) (actC l[k] (.slice ad l[k].n.data.length cd) (.slice af nf cf)) ∧ ActIn B w' l[k] ad cd) := by
  obtain ⟨ao', cap', h1, h2, h3, h4, h5⟩ := h
  simp only [List.cons.injEq, Value.slice.injEq, and_true] at h1
  obtain ⟨rfl, rfl, rfl⟩ := h1
  refine ⟨rfl, h2, h3, h4, fun hne => ?_⟩
  rcases h5 with rfl | ⟨b, o, e, hb, hs, hcc⟩
  · exact absurd rfl hne
  · refine ⟨b, o, e, hb, fun w' hw' k hk => ?_⟩
    obtain ⟨cs', g1, g2, ad, cd, af, nf, cf, rfl, g3⟩ := hcc k hk
    refine ⟨ad, cd, af, nf, cf, fun j v hv => ?_, g3.below hw'⟩
    have hj : j < 44 := by
      have := (List.getElem?_eq_some_iff.1 hv).1
      rwa [actC_len _ _ _ g3.fits.sum] at this
    have := (World.cell?_of_block (w := w) (hw' b hb)).trans (g2 j hj)
    rw [Nat.add_assoc, this, hv]
/-- how many acts few lets be -/
def fewF : Nat → List ActD → Nat
  | _, [] => 0
  | i, a :: l => if 60 ≤ i ∨ 1000 < a.n.data.length then 0 else fewF (i + 1) l + 1
def fewN (l : List ActD) : Nat := fewF 0 l
theorem fewF_le : ∀ (l : List ActD) (i : Nat), fewF i l ≤ l.length
  | [], _ => Nat.le_refl _
  | p :: l, i => by
    unfold fewF
    split
    · exact Nat.zero_le _
    · have := fewF_le l (i + 1); simp; omega
theorem fewF_most : ∀ (l : List ActD) (i : Nat), i ≤ 60 → fewF i l ≤ 60 - i
  | [], i, h => by unfold fewF; omega
  | p :: l, i, h => by
    unfold fewF
    split
    · omega
    · rename_i hc
      have hi : i < 60 := by omega
      have := fewF_most l (i + 1) (by omega)
      omega
theorem fewF_short : ∀ (l : List ActD) (i k : Nat) (hk : k < l.length), k < fewF i l → l[k].n.data.length ≤ 1000
  | [], _, _, hk, _ => absurd hk (Nat.not_lt_zero _)
  | p :: l, i, k, hk, h => by
    unfold fewF at h
    split at h
    · exact absurd h (Nat.not_lt_zero _)
    · rename_i hc
      cases k with
      | zero => show p.n.data.length ≤ 1000; omega
      | succ k => exact fewF_short l (i + 1) k (by simpa using hk) (by omega)
set_option maxRecDepth 10000 in
set_option maxHeartbeats 4000000 in
theorem few_any {l : List ActD} {B : Nat} {W : World} {ao : Option Addr} {n cap : Nat} (hin : inSlice 44 inAct l B W [.slice ao n cap]) (w : World) (hw : ∀ k, k < B → w.heap[k]? = W.heap[k]?) :
    Calls Try.prog 16 #[.slice ao n cap] w fun e w' => e = .returned (.slice ao (fewN l) cap) ∧ w' = w := by
  obtain ⟨hn, hcap, hmax, hno, hat⟩ := acts_in hin
  obtain ⟨R, hR⟩ : ∃ R, R = fewN l := ⟨_, rfl⟩
  rw [← hR]
  have HR := Lib.hid (show R = 0 + fewF 0 (l.drop 0) from by rw [Nat.zero_add]; exact hR)
  have HN := Lib.hid hn
  unfold maxLen at hmax
  have CELL : Hid (∀ i, i < n → ∃ b o ad cd d, ao = some ⟨b, o, none⟩ ∧ w.cell? ⟨b, o + i * 44 + 1 + 36, none⟩ = some (.slice ad d cd) ∧ fewF i (l.drop i) = if 60 ≤ i ∨ 1000 < d then 0 else fewF (i + 1) (l.drop (i + 1)) + 1) := by
    intro i hi
    have hil : i < l.length := by rw [← hn]; exact hi
    obtain ⟨b, o, rfl, _, hall⟩ := hat (by intro h; rw [h] at hil; simp at hil)
    obtain ⟨ad, cd, af, nf, cf, hr, hA⟩ := hall w hw i hil
    refine ⟨b, o, ad, cd, l[i].n.data.length, rfl, ?_, ?_⟩
    · exact hr (1 + 36) _ (actC_note _ _ _ _ _ (Rec.ntC_data _ _ hA.fits.sum))
    · rw [List.drop_eq_getElem_cons hil]; rfl
  have HNO := Lib.hid hno
  clear hat hin hR hn hw hno
  go_enter Try.func16, Try.ntmps16
  go_wp2
  go_loopw [6] (fun v wr => ∃ i : Nat, i ≤ n ∧ i ≤ 60 ∧ v = .int .i64 (i : Int) ∧ R = i + fewF i (l.drop i) ∧ wr = w) (fun v _ => n - (intOf v).toNat)
  case atStart => exact ⟨0, Nat.zero_le _, Nat.zero_le _, rfl, HR.out, rfl⟩
  case round =>
    obtain ⟨i, hin, hi60, rfl, hri, rfl⟩ := hrel
    have HRI := Lib.hid hri
    clear hri HR
    by_cases hlt : (i : Int) < (n : Int)
    · have hin2 : i < n := by omega
      obtain ⟨b, o, ad, cd, d, rfl, hc, hf⟩ := CELL.out i hin2
      have HST : Hid (R = i + (if 60 ≤ i ∨ 1000 < d then 0 else fewF (i + 1) (l.drop (i + 1)) + 1)) := by show _ = _; rw [HRI.out, hf]
      have hic : i ≤ cap := by omega
      clear hf HRI HNO
      by_cases h60 : 60 ≤ (i : Int)
      · have HRR : Hid (R = i) := by show R = i; rw [HST.out, if_pos (.inl (by omega))]; rfl
        go_wp2
        go_ret
        exact ⟨by rw [HRR.out]; rfl, rfl⟩
      by_cases h1000 : 1000 < (d : Int)
      · have HRR : Hid (R = i) := by show R = i; rw [HST.out, if_pos (.inr (by omega))]; rfl
        go_wp2
        go_ret
        exact ⟨by rw [HRR.out]; rfl, rfl⟩
      have HRR : Hid (R = (i + 1) + fewF (i + 1) (l.drop (i + 1))) := by show R = _; rw [HST.out, if_neg (by omega)]; omega
      clear HST
      go_wp2
      go_roundw
      case rel => exact ⟨i + 1, by omega, by omega, by go_num, HRR.out, by first | rfl | trivial⟩
      case measure => simp [intOf]; omega
    · have HRR : Hid (R = n) := by
        show R = n
        rw [HRI.out, List.drop_of_length_le (by rw [← HN.out]; omega)]
        show i + 0 = n
        omega
      go_wp2
      go_ret
      exact ⟨by rw [HRR.out]; rfl, rfl⟩
end Lg
end Go.Proofs.Ytmdphcebmgcdbaa

end
section
namespace Go.Own
open Go.RowKit Go.Maps

open Classical in
noncomputable def putK {α : Type} (g : Lit → α) (kl : Lit) (x : α) : Lit → α := fun l => if l = kl then x else g l
theorem putK_same {α : Type} {g : Lit → α} {kl : Lit} {x : α} : putK g kl x kl = x := by unfold putK; rw [if_pos rfl]
theorem putK_other {α : Type} {g : Lit → α} {kl l : Lit} {x : α} (h : l ≠ kl) : putK g kl x l = g l := by unfold putK; rw [if_neg h]
def rawV : Value → Option (DataW Value × List MemPlace) := fun v => some (.held v, [])
/-- block b is a map of at most n entries; g: the value at a key; z: where there is none -/
def AMap (P : Program) (kt : TypeId) (z : Value) (b n : Nat) (g : Lit → Value) : Asn where
  holds S w := (∃ D : DataW Value, w.ownsMap P kt rawV b n D ∧ ∀ kl, D.atKey kl (.held z) = .held (g kl)) ∧ ∀ k, S k ↔ k = b
  keep h gs hd := by
    obtain ⟨⟨D, ⟨es, clock, hb, r⟩, h1⟩, h5⟩ := h
    exact ⟨⟨D, ⟨es, clock, (gs.block _ (lt_of_block hb) (hd _ ((h5 _).2 rfl))).trans hb, r⟩, h1⟩, h5⟩
  lt h k hk := by
    obtain ⟨⟨D, hm, h1⟩, h5⟩ := h
    rw [(h5 k).1 hk]
    exact hm.lt
section
variable {P : Program} {kt mt vt : TypeId} {z : Value} {B : Nat} {w0 w : World} {Ps : List Asn} {b n : Nat} {g : Lit → Value}
theorem St.mapMake (H : St B w0 w Ps) : ∃ w' b, (Instr.makeMap mt none).run P w = .ok (.map (some b)) w' ∧ St B w0 w' (AMap P kt z b 0 (fun _ => z) :: Ps) := by
  refine ⟨_, w.heap.size, run_makeMap mt w, H.new (S' := fun k => k = w.heap.size) (AMap P kt z _ 0 _) ⟨⟨.map [], World.ownsMap_made w _ _ _, fun kl => rfl⟩, fun k => Iff.rfl⟩ (((Step.refl (fun _ => False) w).alloc (.map #[] 0)).to (fun k hk => .inr (Nat.le_of_eq hk.symm)))⟩
theorem St.mapLook (H : St B w0 w Ps) (i : Nat) (hi : Ps[i]? = some (AMap P kt z b n g)) (K : Keyed P kt) (hmt : P.underlying mt = some (.map kt vt)) (hz : ∀ w, (zeroValue vt).run P w = .ok z w) {kv : Value} {kl : Lit} (hk : keyOf P kt kv = some kl) :
    (Instr.lookup mt (.map (some b)) kv false).run P w = .ok (g kl) w := by
  obtain ⟨S, ⟨⟨D, hm, h1⟩, _⟩, _⟩ := H.at i hi
  obtain ⟨v, ps, hrun, hv⟩ := hm.lookup K hmt (hz w) (zd := .held z) (zp := []) rfl hk
  rw [h1] at hv
  simp only [rawV, Option.some.injEq, Prod.mk.injEq, DataW.held.injEq] at hv
  rw [hrun, hv.1]
theorem St.mapPut (H : St B w0 w Ps) (i : Nat) (hi : Ps[i]? = some (AMap P kt z b n g)) (K : Keyed P kt) (hmt : P.underlying mt = some (.map kt vt)) (hn : n < 1000000000) {kv : Value} {kl : Lit} (hk : keyOf P kt kv = some kl) (v : Value) :
    ∃ w', (Instr.mapUpdate mt (.map (some b)) kv v).run P w = .ok () w' ∧ St B w0 w' (Ps.set i (AMap P kt z b (n + 1) (putK g kl v))) := by
  obtain ⟨S, ⟨⟨D, hm, h1⟩, h5⟩, _, put⟩ := H.at i hi
  obtain ⟨w2, hrun2, hm2, g2⟩ := hm.update K hmt (by unfold maxLen; omega) hk (val := v) (d := .held v) (ps := []) rfl
  have hD : IsMap D := by obtain ⟨es, clock, _, _, _, hD⟩ := hm; exact ⟨_, hD⟩
  refine ⟨w2, hrun2, put (fun k => k = b) w2 (AMap P kt z b (n + 1) _) ⟨⟨_, hm2, fun l => ?_⟩, fun k => Iff.rfl⟩ ?_⟩
  · by_cases hl : l = kl
    · subst hl
      rw [putK_same]
      exact atKey_put_same hD (K.key hk) _ _
    · rw [putK_other hl, atKey_put_other hl]
      exact h1 l
  · refine ⟨g2.os, g2.tape, g2.output, g2.size, fun k hk hn => g2.block k hk (fun e => hn ((h5 k).2 (by cases e; rfl))), fun k hk => .inl ((h5 k).2 hk)⟩
end
end Go.Own

end
section
namespace Go.Proofs.Ytmdphcebmgcdbaa
open Go.RowKit Go.Own Go.Maps
namespace PrK
abbrev i64P (x : Int) : Prop := -9223372036854775808 ≤ x ∧ x ≤ 9223372036854775807
theorem pairArr : WideMaps.ArrKey Try.prog 83 3 2 := ⟨Try.underlying83, by kernel_rfl, by kernel_rfl, by kernel_rfl⟩
theorem pairKeyed : Keyed Try.prog 83 := Keyed.of_law pairArr.law
theorem typesPos : ∃ m, Try.prog.types.size = m + 1 := ⟨Try.prog.types.size - 1, by kernel_rfl⟩
def prV (a b : Int) : Value := .agg #[.int .i64 a, .int .i64 b]
def prL (a b : Int) : Lit := .string (keyBytes [.int .i64 a, .int .i64 b])
theorem wf_i64 {a : Int} (h : i64P a) : (Lit.int .i64 a).wf = true := by
  simp [Lit.wf, IntKind.min, IntKind.max, IntKind.signed, IntKind.bits]
  unfold i64P at h
  omega
theorem pr_key {a b : Int} (ha : i64P a) (hb : i64P b) : keyOf Try.prog 83 (prV a b) = some (prL a b) := by
  have A := pairArr
  have he : Try.prog.underlying 3 = some (.int .i64) := Try.underlying3
  have hkt := A.keyType typesPos
  obtain ⟨m, hm⟩ := typesPos
  have wa := wf_i64 ha
  have wb := wf_i64 hb
  unfold keyOf prV
  simp only [A.hu]
  rw [if_pos (by simp [hkt, Value.formed, A.hu, A.size]), hm]
  unfold Program.keyLits
  simp only [A.hu, Value.cells]
  rw [if_pos (by rw [A.size]; rfl), show List.range 2 = [0, 1] from rfl, List.mapM_cons, List.mapM_cons, List.mapM_nil]
  simp [A.one, Program.keyLits, he, wa, wb, prL]
theorem prL_inj {a b a' b' : Int} (ha : i64P a) (hb : i64P b) (ha' : i64P a') (hb' : i64P b') (h : prL a b = prL a' b') : a = a' ∧ b = b' := by
  have h1 := pr_key ha hb
  rw [h] at h1
  have := pairKeyed.inj h1 (pr_key ha' hb')
  simp only [prV, Value.agg.injEq, Array.mk.injEq, List.cons.injEq, Value.int.injEq, and_true, true_and] at this
  exact this
abbrev APair (b n : Nat) (g : Lit → Value) : Asn := AMap Try.prog 83 (.bool false) b n g
end PrK
end Go.Proofs.Ytmdphcebmgcdbaa

end
section
namespace Go.Proofs.Ytmdphcebmgcdbaa
open Go.RowKit Go.Own Go.Maps
namespace Lg
open Go.LogM Byt PrK
def zAct : List Value := actC ⟨0, RecM.zeroN, zP, 0, 0, []⟩ Rec.nilV Rec.nilV
theorem zero_act : (Try.prog.info? 62).bind (·.zero) = some (.agg zAct.toArray) := by kernel_rfl
theorem zAct_len : zAct.length = 44 := actC_len _ _ _ rfl
theorem info_act : (Try.prog.info? 62).map (·.size) = some zAct.length := by
  have h0 : (Try.prog.info? 62).map (fun i => i.size) = some 44 := by kernel_rfl
  rw [zAct_len]; exact h0
theorem actC_one (a : ActD) {dv fv : Value} (h1 : dv.oneCell' = true) (h2 : fv.oneCell' = true) : ∀ u ∈ actC a dv fv, u.oneCell' = true := by
  intro u hu
  unfold actC actB at hu
  rcases List.mem_cons.1 hu with rfl | hu
  · rfl
  · rcases List.mem_append.1 hu with hu | hu
    · exact Rec.ntC_one h1 u hu
    · simp only [List.mem_cons, List.not_mem_nil, or_false] at hu
      rcases hu with rfl | rfl | rfl | rfl | rfl | rfl
      · rfl
      · rfl
      · rfl
      · rfl
      · rfl
      · exact h2
theorem act_round {B : Nat} {w0 wr : World} {Ps : List Asn} {a : ActD} {ad af : Option Addr} {cd nf cf b o : Nat} (H : Own.St B w0 wr Ps) (hs : a.n.sum.length = 32) (hr : wr.rangeAt b o (actC a (.slice ad a.n.data.length cd) (.slice af nf cf))) :
    RoundE Try.prog 62 zAct B w0 wr Ps b o (actC a (.slice ad a.n.data.length cd) (.slice af nf cf)) :=
  round_E H hr (by rw [actC_len _ _ _ hs, zAct_len]) info_act (actC_one a rfl rfl)
/-- what is marked is a page of a note -/
def HadI (k : Nat) (Ns : Nat → List RecM.Nte) (g : Lit → Value) : Prop := ∀ i p : Nat, i < 1000 → p < 1000 → ∃ hb : Bool, g (prL i p) = .bool hb ∧ (hb = true → i < k ∧ p < 1 + ((Ns i).flatMap notePages).length)
/-- .. while the first j pages of a note on segment s, from page q on, are marked, too -/
def HadJ (k : Nat) (Ns : Nat → List RecM.Nte) (s q j : Nat) (g : Lit → Value) : Prop := ∀ i p : Nat, i < 1000 → p < 1000 → ∃ hb : Bool, g (prL i p) = .bool hb ∧ (hb = true → (i < k ∧ p < 1 + ((Ns i).flatMap notePages).length) ∨ (i = s ∧ q ≤ p ∧ p < q + j))
theorem hadJ_zero {k : Nat} {Ns : Nat → List RecM.Nte} {s q : Nat} {g : Lit → Value} (h : HadI k Ns g) : HadJ k Ns s q 0 g := fun i p hi hp => by
  obtain ⟨hb, h1, h2⟩ := h i p hi hp
  exact ⟨hb, h1, fun e => .inl (h2 e)⟩
theorem small_i {n : Nat} (h : n < 1000) : i64P (n : Int) := ⟨by omega, by omega⟩
theorem hadJ_next {k : Nat} {Ns : Nat → List RecM.Nte} {s q j : Nat} {g : Lit → Value} (hs : s < 1000) (hq : q + j < 1000) (h : HadJ k Ns s q j g) : HadJ k Ns s q (j + 1) (putK g (prL (s : Int) ((q + j : Nat) : Int)) (.bool true)) := fun i p hi hp => by
  by_cases e : prL (i : Int) (p : Int) = prL (s : Int) ((q + j : Nat) : Int)
  · refine ⟨true, by rw [e, putK_same], fun _ => .inr ?_⟩
    have := prL_inj (small_i hi) (small_i hp) (small_i hs) (small_i hq) e
    omega
  · obtain ⟨hb, h1, h2⟩ := h i p hi hp
    refine ⟨hb, by rw [putK_other e]; exact h1, fun e2 => ?_⟩
    rcases h2 e2 with h3 | h3
    · exact .inl h3
    · exact .inr ⟨h3.1, h3.2.1, by omega⟩
/-- a page behind them is not marked -/
theorem hadJ_not {k : Nat} {Ns : Nat → List RecM.Nte} {s q j : Nat} {g : Lit → Value} (hs : s < 1000) (hq : q + j < 1000) (hqn : q = 1 + ((Ns s).flatMap notePages).length) (h : HadJ k Ns s q j g) : g (prL (s : Int) ((q + j : Nat) : Int)) = .bool false := by
  obtain ⟨hb, h1, h2⟩ := h s (q + j) hs hq
  cases hb
  · exact h1
  · rcases h2 rfl with h3 | h3 <;> omega
theorem hadJ_all {k k' : Nat} {Ns : Nat → List RecM.Nte} {n : RecM.Nte} {q : Nat} {g : Lit → Value} (hk : k ≤ k') (hk0 : 0 < k') (hqn : q = 1 + ((Ns (k' - 1)).flatMap notePages).length) (h : HadJ k Ns (k' - 1) q (notePages n).length g) : HadI k' (updN Ns (k' - 1) (Ns (k' - 1) ++ [n])) g := fun i p hi hp => by
  obtain ⟨hb, h1, h2⟩ := h i p hi hp
  refine ⟨hb, h1, fun e => ?_⟩
  unfold updN
  rcases h2 e with ⟨h3, h4⟩ | ⟨h3, h4, h5⟩
  · refine ⟨by omega, ?_⟩
    split
    · rename_i h6
      rw [h6] at h4
      rw [List.flatMap_append, List.length_append]; omega
    · exact h4
  · refine ⟨by omega, ?_⟩
    rw [if_pos h3, List.flatMap_append, List.length_append]
    simp only [List.flatMap_cons, List.flatMap_nil, List.append_nil]
    omega
end Lg
end Go.Proofs.Ytmdphcebmgcdbaa

end
section
namespace Go.Proofs.Ytmdphcebmgcdbaa
open Go.RowKit Go.Own Go.Maps
namespace Lg
open Go.LogM Byt PrK
/-- the state of a log that was built so -/
theorem new_inv (m : Nat) (hm : 2 ≤ m ∧ m ≤ 64) : Inv 1 70 (sNew 70 m) 0 false true (fun _ => []) [] (fun _ => []) [] false ∧ FlaM.Ok (sNew 70 m).fs 1 ∧ Live (sNew 70 m).fs ∧ (sNew 70 m).fs.pp = m := by
  refine ⟨?_, (FlaM.ok_fresh 71 m (by decide) (by omega)).more (by omega), ⟨rfl, rfl⟩, rfl⟩
  have := inv_fresh 1 70 m hm.1
  rw [show 1 + 70 = 70 + 1 by omega] at this
  exact this
/-- behind so many acts of one who only appends, with the power on -/
def AppI (m i : Nat) (σ : LG) (k : Nat) (op hd : Bool) (Ns : Nat → List RecM.Nte) (ex : List LogM.Bs) (F : Nat → List LogM.Bs) (X : List LogM.Bs) (er : Bool) : Prop :=
  Inv 1 70 σ k op hd Ns ex F X er ∧ FlaM.Ok σ.fs (1 + 8 * i) ∧ Live σ.fs ∧ σ.fs.pp = m ∧ k ≤ i
theorem appI_lg {m i : Nat} {σ : LG} {k : Nat} {op hd : Bool} {Ns : Nat → List RecM.Nte} {ex : List LogM.Bs} {F : Nat → List LogM.Bs} {X : List LogM.Bs} {er : Bool} (h : AppI m i σ k op hd Ns ex F X er) : LgOk 1 σ (1 + 8 * i) :=
  h.1.ok (by decide) h.2.1 (by have := h.2.2.2.2; omega) (by omega)
/-- an Append, with the power on -/
theorem appI_next {m i : Nat} {σ : LG} {k : Nat} {op hd : Bool} {Ns : Nat → List RecM.Nte} {ex : List LogM.Bs} {F : Nat → List LogM.Bs} {X : List LogM.Bs} {er : Bool} (h : AppI m i σ k op hd Ns ex F X er) (hm : 5 ≤ m) (hi : i < 60) (n : RecM.Nte) (hf : RecM.Fits n) :
    (RecM.right n = false ∧ appendL 1 σ n = (σ, (zP, 1))) ∨
    (RecM.right n = true ∧ ∃ σ' k' F' X', appendL 1 σ n = (σ', (⟨((k' - 1 : Nat) : Int), ((1 + ((Ns (k' - 1)).flatMap notePages).length : Nat) : Int), ((notePages n).length : Int)⟩, 0)) ∧ 0 < k' ∧ k ≤ k' ∧ k' ≤ 60 ∧ (notePages n).length ≤ 3 ∧ 0 < (notePages n).length ∧ 1 + ((Ns (k' - 1)).flatMap notePages).length + (notePages n).length ≤ m ∧
      (∀ j, k ≤ j → Ns j = []) ∧ σ'.a = 1 + ((Ns (k' - 1)).flatMap notePages).length + (notePages n).length ∧ AppI m (i + 1) σ' k' true true (updN Ns (k' - 1) (Ns (k' - 1) ++ [n])) [] F' X' false) := by
  obtain ⟨hI, hok, hl, hpp, hki⟩ := h
  by_cases hr : RecM.right n = false
  · exact .inl ⟨hr, append_bad 1 σ hr⟩
  have hr' : RecM.right n = true := by simpa using hr
  refine .inr ⟨hr', ?_⟩
  have hn : LogM.Good n := ⟨hf, hr'⟩
  have hfew := notePages_few hf hr'
  obtain ⟨⟨k', op', hd', Ns', ex', F', X', er', q⟩, qok⟩ := inv_append hI hok hn (by omega) (by rw [hpp]; omega)
  have h0 := (q.live hl).1
  rcases q.or with ⟨r0, r1, r2, r3, r4, r5, r6⟩ | ⟨r1, _⟩
  · subst r1 r2 r3 r4
    have hk' := q.inv.opn rfl
    have her : er' = false := by
      cases er'
      · rfl
      · exact absurd (q.inv.er0 rfl) (by decide)
    subst her
    refine ⟨(appendL 1 σ n).1, k', F', X', ?_, hk', q.lo, by have := q.hi; omega, hfew, notePages_pos n, by rw [hpp] at r6; exact r6, fun j hj => (hI.new j hj).2, ?_, q.inv, qok.more (by omega), (q.live hl).2, q.pp.trans hpp, by have := q.hi; omega⟩
    · rw [← r5, ← r0]
    · have ha := q.inv.at_ rfl
      rw [if_pos rfl, q.inv.all (k' - 1) (by omega), full_ex] at ha
      rw [ha]
      unfold updN
      rw [if_pos rfl, List.length_cons, List.flatMap_append, List.length_append]
      simp only [List.flatMap_cons, List.flatMap_nil, List.append_nil]
      omega
  · rw [r1] at h0
    cases h0
set_option maxRecDepth 10000 in
set_option maxHeartbeats 16000000 in
theorem walk_apart {w : World} {FK : Fla.Kept w} {TK : Tab.Kept w} (K : Kept w FK TK) (a0 : Option Addr) (len0 cap0 : Nat) (l : List ActD) (p0 : Nat) (hp0 : p0 ≤ 255) (w0 : inSlice 44 inAct l w.heap.size w [.slice a0 len0 cap0]) :
    Calls Try.prog 6 #[.slice a0 len0 cap0, .int .u8 (p0 : Int)] w (RetYes w) := by
  obtain ⟨hlen, hcap, hmax, _, hat⟩ := acts_in w0
  have SH := Lib.hid (shown_any K (Below.refl _ _))
  have HF : Hid (∀ wx, Below w.heap.size w wx → Calls Try.prog 16 #[.slice a0 len0 cap0] wx fun e w' => e = .returned (.slice a0 (fewN l) cap0) ∧ w' = wx) := fun wx hwx => few_any w0 wx (fun k hk => hwx.block k hk)
  have HAT := Lib.hid hat
  have HLEN := Lib.hid hlen
  have hmax2 : cap0 ≤ 9223372036854775807 := by unfold maxLen at hmax; omega
  obtain ⟨m0, hm0⟩ : ∃ n, n = p0 % 8 := ⟨_, rfl⟩
  obtain ⟨m, hm⟩ : ∃ n, n = m0 + 5 := ⟨_, rfl⟩
  have e3 : (p0 : Int) % 8 = (m0 : Int) := by omega
  have e4 : (m0 : Int) + 5 = (m : Int) := by omega
  have hm8 : 5 ≤ m ∧ m ≤ 12 := by omega
  have hm07 : m0 ≤ 7 := by omega
  have CB : Hid (∀ wx, Below w.heap.size w wx → Calls Try.prog 14 #[.int .i64 70, .int .i64 (m : Int)] wx fun e w' => ∃ p pf pt, e = .returned (.tuple #[ptr p, ptr pf, ptr pt, .bool true]) ∧ LSt K w.heap.size w w' p pf pt 1 (sNew 70 m) []) := fun wx hwx => built_any K 70 m (by decide) (by omega) (Below.refl _ _) (Nat.le_refl _) ((Own.St.start w).later hwx)
  have hN := new_inv m (by omega)
  have I0 : Hid (AppI m 0 (sNew 70 m) 0 false true (fun _ => []) [] (fun _ => []) [] false) := ⟨hN.1, hN.2.1, hN.2.2.1, hN.2.2.2, Nat.le_refl _⟩
  have G0 : Hid (HadI 0 (fun _ => []) (fun _ => Value.bool false)) := fun i p _ _ => ⟨false, rfl, fun e => by cases e⟩
  obtain ⟨kf, hkf⟩ : ∃ k, k = fewN l := ⟨_, rfl⟩
  have hkf1 : kf ≤ l.length := by rw [hkf]; exact fewF_le l 0
  have hkf2 : kf ≤ 60 := by rw [hkf]; exact fewF_most l 0 (by decide)
  have HK3 : Hid (∀ i (hi : i < l.length), i < kf → l[i].n.data.length ≤ 1000) := fun i hi h => fewF_short l 0 i hi (by rw [hkf] at h; exact h)
  rw [← hkf] at HF
  clear hat hlen w0 hmax hm0 hm hN hkf
  go_enter Try.func6, Try.ntmps6
  go_wp2_with (fail)
  refine SH.out.mono ?_
  clear SH
  rintro e w1 ⟨rfl, h1⟩
  have CB1 := Lib.hid (CB.out w1 h1)
  clear h1 CB
  go_wp2_with (fail)
  refine CB1.out.mono ?_
  clear CB1
  rintro e w2 ⟨p, pf, pt, rfl, h2⟩
  obtain ⟨w3, bm, hmk, h3⟩ := h2.mapMake (P := Try.prog) (kt := 83) (mt := 80) (z := .bool false)
  have H3 := Lib.hid (third h3)
  clear h2 h3
  go_wp2_with (fail)
  clear hmk
  refine (HF.out w3 H3.out.below).mono ?_
  clear HF
  rintro e w4 ⟨rfl, rfl⟩
  go_wp2
  go_loopw [40] (fun v wr => ∃ (i n k : Nat) (σ : LG) (op hd : Bool) (Ns : Nat → List RecM.Nte) (ex : List LogM.Bs) (F : Nat → List LogM.Bs) (X : List LogM.Bs) (er : Bool) (g : Lit → Value), i ≤ kf ∧ n ≤ 3 * i ∧ v = .int .i64 (i : Int) ∧ LSt K w.heap.size w wr p pf pt 1 σ [APair bm n g] ∧ AppI m i σ k op hd Ns ex F X er ∧ HadI k Ns g) (fun v _ => kf - (intOf v).toNat)
  case atStart => exact ⟨0, 0, 0, _, _, _, _, _, _, _, _, _, Nat.zero_le _, Nat.le_refl _, rfl, H3.out, I0.out, G0.out⟩
  case round =>
    obtain ⟨i, n, k, σ, op, hd, Ns, ex, F, X, er, g, hik, hn3, rfl, hH, hAI, hHI⟩ := hrel
    have H := Lib.hid hH
    have AI := Lib.hid hAI
    have HI := Lib.hid hHI
    clear hH hAI hHI H3 I0 G0
    by_cases hi : (i : Int) < (kf : Int)
    · have hik2 : i < kf := by omega
      have hil : i < l.length := by omega
      obtain ⟨b, o, rfl, hb, hact⟩ := HAT.out (by intro e; rw [e] at hil; simp at hil)
      obtain ⟨ad, cd, af, nf, cf, hrng, hain⟩ := hact wr (fun k hk => H.out.below.block k hk) i hil
      obtain ⟨a, ha⟩ : ∃ a, a = l[i] := ⟨_, rfl⟩
      have hd1000 : a.n.data.length ≤ 1000 := by rw [ha]; exact HK3.out i hil hik2
      rw [← ha] at hrng hain
      obtain ⟨nd, hnd⟩ : ∃ n, n = a.n.data.length := ⟨_, rfl⟩
      have hRA := act_round H.out hain.fits.sum hrng
      rw [← hnd] at hRA
      obtain ⟨vs, hvs⟩ : ∃ v, v = actC a (.slice ad nd cd) (.slice af nf cf) := ⟨_, rfl⟩
      rw [← hvs] at hRA
      have RA := Lib.hid hRA
      obtain ⟨b5, hb5⟩ : ∃ b, b = wr.heap.size := ⟨_, rfl⟩
      obtain ⟨W1, hW1⟩ : ∃ W, W = wr.alloc (.cells zAct.toArray 62) := ⟨_, rfl⟩
      obtain ⟨W2, hW2⟩ : ∃ W, W = W1.setCells b5 0 vs.toArray.toList := ⟨_, rfl⟩
      have hst := hRA.st
      rw [← hb5, ← hW1, ← hW2] at hst
      have TH := Lib.hid hRA.there
      rw [← hb5, ← hW1] at TH
      have hst3 := third hst
      have H2 := Lib.hid hst3
      have NT : Hid (W2.rangeAt b5 1 (Rec.ntC a.n (.slice ad nd cd))) := fun j v hv => (hst.cellV 0 rfl (1 + j) (by rw [hvs]; exact actC_note a _ _ j v hv)).1
      have hap := appI_next AI.out hm8.1 (by omega) a.n hain.fits
      have CA := K.append a.n ad nd cd hst3.below hst3 (appI_lg AI.out) (by omega) hain.fits (by
        have hv : View W2 (fun k => k < w.heap.size) ad a.n.data := hain.view.same (fun k hk => Below.both H.out.below hst3.below k hk)
        rw [hnd]
        exact ⟨⟨hv.mono (fun k hk => Nat.lt_of_lt_of_le hk hst3.size), rfl, hain.room, hain.nil⟩, .inr hv⟩) (by omega)
      obtain ⟨nn, hnn⟩ : ∃ x, x = Rec.ntC a.n (.slice ad nd cd) := ⟨_, rfl⟩
      have NL : Hid (nn.length = 37) := by show _ = _; rw [hnn]; exact Rec.ntC_len _ _ hain.fits.sum
      have IN := Lib.hid (Rec.info_note nn NL.out)
      rw [show Rec.ntV a.n (.slice ad nd cd) = .agg nn.toArray by rw [hnn]] at CA
      rw [← hnn] at NT
      have ZA := Lib.hid zero_act
      have HB5 := Lib.hid hb5
      have HW1 := Lib.hid hW1
      have HW2 := Lib.hid hW2
      rcases hap with ⟨hr, hap⟩ | ⟨hr, σ', k', F', X', hap, hk0, hkk, hk60, hl3, hl1, hrm, hNs, hσa, hAI'⟩
      · rw [hap] at CA
        have CA1 := Lib.hid CA
        clear hact hrng hain ha hnd hRA hvs hb5 hW1 hW2 hst hst3 CA hnn H hap
        go_wp2_with (first
          | (refine wpList_load_mid rfl 62 (.tmp 42) rfl b (o + i * 44) rfl vs _ RA.out.range Try.underlying62 rfl RA.out.info ?_)
          | (refine Own.wpList_allocZ rfl 62 rfl zAct.toArray ZA.out ?_; rw [← HB5.out, ← HW1.out])
          | (refine wpList_store_mid rfl 62 (.tmp 13) (.tmp 43) rfl b5 0 vs.toArray rfl rfl TH.out RA.out.info2 RA.out.one ?_; rw [← HW2.out])
          | (refine wpList_load_mid rfl 58 (.tmp 46) rfl b5 1 rfl nn _ NT.out Try.underlying58 rfl IN.out ?_))
        refine CA1.out.mono ?_
        clear CA1 RA TH NT
        rintro e w6 ⟨rfl, h6⟩
        have H6 := Lib.hid (h6.alloc (.cells #[.int .i64 0, .int .i64 0, .int .i64 0] 60))
        clear h6 H2
        go_wp2_with (fail)
        go_roundw
        case rel => exact ⟨i + 1, n, k, σ, op, hd, Ns, ex, F, X, er, g, by omega, by omega, by go_num, (H6.out.front 3 rfl).drop 1, ⟨AI.out.1, AI.out.2.1.more (by omega), AI.out.2.2.1, AI.out.2.2.2.1, by have := AI.out.2.2.2.2; omega⟩, HI.out⟩
        case measure => simp [intOf]; omega
      · rw [hap] at CA
        obtain ⟨s, hs⟩ : ∃ s, s = k' - 1 := ⟨_, rfl⟩
        obtain ⟨q, hq⟩ : ∃ q, q = 1 + ((Ns (k' - 1)).flatMap notePages).length := ⟨_, rfl⟩
        obtain ⟨ln, hln⟩ : ∃ x, x = (notePages a.n).length := ⟨_, rfl⟩
        obtain ⟨z, hz⟩ : ∃ z, z = q + ln := ⟨_, rfl⟩
        rw [← hln] at hl3 hl1
        rw [← hq, ← hln] at hrm hσa
        rw [← hq, ← hs, ← hln] at CA
        have HJ0 : Hid (HadJ k Ns s q 0 g) := hadJ_zero HI.out
        have HLAST : Hid (∀ g2, HadJ k Ns s q ln g2 → HadI k' (updN Ns (k' - 1) (Ns (k' - 1) ++ [a.n])) g2) := fun g2 h2 => by
          rw [hs, hln] at h2
          exact hadJ_all hkk hk0 hq h2
        have HNOT : Hid (∀ j g2, j < ln → HadJ k Ns s q j g2 → g2 (prL (s : Int) ((q + j : Nat) : Int)) = .bool false) := fun j g2 hj h2 => hadJ_not (by omega) (by omega) (by rw [hq, hs]) h2
        have HNEXT : Hid (∀ j g2, j < ln → HadJ k Ns s q j g2 → HadJ k Ns s q (j + 1) (putK g2 (prL (s : Int) ((q + j : Nat) : Int)) (.bool true))) := fun j g2 hj h2 => hadJ_next (by omega) (by omega) h2
        have hs70 : s < 70 := by omega
        have hq1 : 1 ≤ q := by omega
        have hq12 : q ≤ 12 := by omega
        have hzm : z ≤ m := by omega
        have hkI : k' ≤ 60 := hk60
        have CA1 := Lib.hid CA
        have hcur : Tab.curV σ'.tb = .tuple #[.int .i64 (s : Int), .bool true] := by
          unfold Tab.curV
          rw [hAI'.1.tb, tab_cur hk0 hAI'.1.km, ← hs]
          rfl
        have CU : Hid (∀ wx Ps, LSt K w.heap.size w wx p pf pt 1 σ' Ps → Calls Try.prog 26 #[ptr pt] wx fun e w' => e = .returned (.tuple #[.int .i64 (s : Int), .bool true]) ∧ Below wx.heap.size wx w') := fun wx Ps hx => by
          have c := TK.cur hx.below (hx.front 2 rfl) (appI_lg hAI').tb (by omega)
          rw [hcur] at c
          exact c
        have hnx : σ'.tb.next = k' + 1 := by rw [hAI'.1.tb]; rfl
        have CN : Hid (∀ wx Ps, LSt K w.heap.size w wx p pf pt 1 σ' Ps → Calls Try.prog 21 #[ptr pt] wx fun e w' => e = .returned (.int .u64 ((k' + 1 : Nat) : Int)) ∧ Below wx.heap.size wx w') := fun wx Ps hx => by
          have c := TK.next hx.below (hx.front 2 rfl) (appI_lg hAI').tb (by omega)
          rw [hnx] at c
          exact c
        have hhd := head_open hAI'.1
        rw [hσa, ← hz, hAI'.2.2.2.1] at hhd
        have CH : Hid (∀ wx Ps, LSt K w.heap.size w wx p pf pt 1 σ' Ps → Calls Try.prog 25 #[ptr p] wx fun e w' => e = .returned (.tuple #[.int .u64 ((if z < m then (k', z) else (k' + 1, 1)).1 : Int), .int .i64 ((if z < m then (k', z) else (k' + 1, 1)).2 : Int)]) ∧ LSt K w.heap.size w w' p pf pt 1 σ' Ps) := fun wx Ps hx => by
          have c := K.head hx.below hx (appI_lg hAI') (by omega)
          rw [hhd] at c
          exact c
        have AIN := Lib.hid hAI'
        have HZ := Lib.hid hz
        have ez : (q : Int) + (ln : Int) = (z : Int) := by omega
        clear hact hrng hain ha hnd hRA hvs hb5 hW1 hW2 hst hst3 CA hnn H hap hcur hnx hhd hAI' hNs hσa hs hq hln hz hkk hk0 hk60
        go_wp2_with (first
          | (refine wpList_load_mid rfl 62 (.tmp 42) rfl b (o + i * 44) rfl vs _ RA.out.range Try.underlying62 rfl RA.out.info ?_)
          | (refine Own.wpList_allocZ rfl 62 rfl zAct.toArray ZA.out ?_; rw [← HB5.out, ← HW1.out])
          | (refine wpList_store_mid rfl 62 (.tmp 13) (.tmp 43) rfl b5 0 vs.toArray rfl rfl TH.out RA.out.info2 RA.out.one ?_; rw [← HW2.out])
          | (refine wpList_load_mid rfl 58 (.tmp 46) rfl b5 1 rfl nn _ NT.out Try.underlying58 rfl IN.out ?_))
        refine CA1.out.mono ?_
        clear CA1 RA TH NT
        rintro e w6 ⟨rfl, h6⟩
        have h6b := h6.boxV 60 (plcA ⟨(s : Int), (q : Int), (ln : Int)⟩).toList
        obtain ⟨b14, hb14⟩ : ∃ b, b = w6.heap.size := ⟨_, rfl⟩
        have HB14 := Lib.hid hb14
        have h6c := ((third h6b).front 4 rfl).drop 1
        rw [← hb14] at h6c
        have H6 : Hid (LSt K w.heap.size w (w6.alloc (.cells (plcA ⟨(s : Int), (q : Int), (ln : Int)⟩) 60)) p pf pt 1 σ' [AVals b14 60 (plcA ⟨(s : Int), (q : Int), (ln : Int)⟩).toList, APair bm n g]) := h6c
        have CU1 := Lib.hid (CU.out _ _ H6.out)
        clear h6 h6b h6c H2 CU hb14
        go_wp2_with (fail)
        refine CU1.out.mono ?_
        clear CU1
        rintro e w7 ⟨rfl, hb7⟩
        have H7 := Lib.hid (H6.out.later hb7)
        clear hb7 H6
        rw [← HB14.out]
        have c0 := (H7.out.cellV 3 rfl 0 rfl).1
        have c1 := (H7.out.cellV 3 rfl 1 rfl).1
        have c2 := (H7.out.cellV 3 rfl 2 rfl).1
        have hself : ((s : Int) != (s : Int)) = false := by simp
        go_wp2_with (fail)
        clear c0 c1 c2
        go_loopw [92] (fun v92 wx => ∃ (j n2 : Nat) (g2 : Lit → Value), j ≤ ln ∧ n2 ≤ n + j ∧ v92 = .int .i64 (j : Int) ∧ LSt K w.heap.size w wx p pf pt 1 σ' [AVals b14 60 (plcA ⟨(s : Int), (q : Int), (ln : Int)⟩).toList, APair bm n2 g2] ∧ HadJ k Ns s q j g2) (fun v _ => ln - (intOf v).toNat)
        case atStart => exact ⟨0, n, g, Nat.zero_le _, Nat.le_refl _, rfl, H7.out, HJ0.out⟩
        case round =>
          obtain ⟨j, n2, g2, hjl, hn2, rfl, hH2, hJ2⟩ := hrel
          have H := Lib.hid hH2
          have J := Lib.hid hJ2
          have c0 := (hH2.cellV 3 rfl 0 rfl).1
          have c1 := (hH2.cellV 3 rfl 1 rfl).1
          have c2 := (hH2.cellV 3 rfl 2 rfl).1
          clear hH2 hJ2 H7 HJ0
          by_cases hj : (j : Int) < (ln : Int)
          · have hjn : j < ln := by omega
            obtain ⟨y, hy⟩ : ∃ y, y = q + j := ⟨_, rfl⟩
            have ey : (q : Int) + (j : Int) = (y : Int) := by omega
            have hy20 : y < 1000 := by omega
            have hno := HNOT.out j g2 hjn J.out
            have hnx := HNEXT.out j g2 hjn J.out
            rw [← hy] at hno hnx
            obtain ⟨W8, hW8⟩ : ∃ W, W = wr.alloc (.cells #[.int .i64 (s : Int), .int .i64 (y : Int)] 83) := ⟨_, rfl⟩
            have hal := H.out.boxV 83 [.int .i64 (s : Int), .int .i64 (y : Int)]
            have hal3 := third hal
            obtain ⟨b19, hb19⟩ : ∃ b, b = wr.heap.size := ⟨_, rfl⟩
            rw [← hb19] at hal3
            have hlk := hal3.mapLook 5 rfl pairKeyed (mt := 80) Try.underlying80 (fun w => by kernel_rfl) (pr_key (small_i (show s < 1000 by omega)) (small_i hy20))
            rw [hno] at hlk
            have hlk2 : (Instr.lookup 80 (.map (some bm)) (.agg #[.int .i64 (s : Int), .int .i64 (y : Int)]) false).run Try.prog (wr.alloc (.cells #[.int .i64 (s : Int), .int .i64 (y : Int)] 83)) = .ok (.bool false) (wr.alloc (.cells #[.int .i64 (s : Int), .int .i64 (y : Int)] 83)) := hlk
            obtain ⟨w9, hup, h9⟩ := hal3.mapPut 5 rfl pairKeyed (mt := 80) Try.underlying80 (by omega) (pr_key (small_i (show s < 1000 by omega)) (small_i hy20)) (.bool true)
            have hup2 : (Instr.mapUpdate 80 (.map (some bm)) (.agg #[.int .i64 (s : Int), .int .i64 (y : Int)]) (.bool true)).run Try.prog (wr.alloc (.cells #[.int .i64 (s : Int), .int .i64 (y : Int)] 83)) = .ok () w9 := hup
            have H9 : Hid (LSt K w.heap.size w w9 p pf pt 1 σ' [AVals b14 60 (plcA ⟨(s : Int), (q : Int), (ln : Int)⟩).toList, APair bm (n2 + 1) (putK g2 (prL (s : Int) (y : Int)) (.bool true))]) := by
              have h := (h9.front 3 rfl).drop 1
              exact h
            have J9 := Lib.hid hnx
            clear hal hal3 hlk hup h9 hno hnx hy hb19 hW8 H J
            go_wp2_with (fail)
            clear hlk2 hup2
            go_roundw
            case rel => exact ⟨j + 1, n2 + 1, _, by omega, by omega, by go_num, H9.out, J9.out⟩
            case measure => simp [intOf]; omega
          · have hjl2 : j = ln := by omega
            subst hjl2
            have HIN := Lib.hid (HLAST.out g2 J.out)
            have CH1 := Lib.hid (CH.out _ _ H.out)
            clear J HLAST HNOT HNEXT c0 c1 c2
            by_cases hzl : z < m
            · rw [if_pos hzl] at CH1
              have hne : ((z : Int) != (z : Int)) = false := by simp
              have heq : ((z : Int) == (m : Int)) = false := by simp; omega
              have hlt : (z : Int) < (m : Int) := by omega
              go_wp2_with (fail)
              refine CH1.out.mono ?_
              clear CH1
              rintro e w10 ⟨rfl, h10⟩
              have H10 := Lib.hid h10
              have c1 := (h10.cellV 3 rfl 1 rfl).1
              have c2 := (h10.cellV 3 rfl 2 rfl).1
              clear h10 H
              go_wp2_with (fail)
              go_roundw
              case rel => exact ⟨i + 1, n2, k', σ', true, true, _, _, F', X', false, g2, by omega, by omega, by go_num, (H10.out.front 3 rfl).drop 1, AIN.out, HIN.out⟩
              case measure => simp [intOf]; omega
            · rw [if_neg hzl] at CH1
              have hzm2 : z = m := by omega
              have heq : ((z : Int) == (m : Int)) = true := by simp; omega
              have hlt : ¬ (z : Int) < (m : Int) := by omega
              have hself2 : (((k' + 1 : Nat) : Int) != ((k' + 1 : Nat) : Int)) = false := by simp
              obtain ⟨k1, hk1⟩ : ∃ x, x = k' + 1 := ⟨_, rfl⟩
              rw [← hk1] at CH1 hself2 CN
              clear hzm2
              go_wp2_with (fail)
              refine CH1.out.mono ?_
              clear CH1
              rintro e w10 ⟨rfl, h10⟩
              have H10 := Lib.hid h10
              have c1 := (h10.cellV 3 rfl 1 rfl).1
              have c2 := (h10.cellV 3 rfl 2 rfl).1
              have CN1 := Lib.hid (CN.out _ _ h10)
              clear h10 H CN
              go_wp2_with (fail)
              refine CN1.out.mono ?_
              clear CN1 c1 c2
              rintro e w11 ⟨rfl, hb11⟩
              have H11 := Lib.hid (H10.out.later hb11)
              clear hb11 H10
              go_wp2_with (fail)
              go_roundw
              case rel => exact ⟨i + 1, n2, k', σ', true, true, _, _, F', X', false, g2, by omega, by omega, by go_num, (H11.out.front 3 rfl).drop 1, AIN.out, HIN.out⟩
              case measure => simp [intOf]; omega
    · clear HI AI
      go_wp2
      go_ret
      exact ⟨rfl, H.out.below⟩
end Lg
end Go.Proofs.Ytmdphcebmgcdbaa

end
section
namespace Go.Proofs.Ytmdphcebmgcdbaa
open Go.RowKit Go.Own
namespace Fla
open Go.FlaM Byt

theorem nowR_cons (a : FlaM.Act) (r : List FlaM.Act) (i k : Nat) : nowR (a :: r) i k = if a.seg = i ∧ a.page = (k : Int) then some a.b else if a.seg = i ∧ a.page < 0 then some FlaM.blank else nowR r i k := rfl
theorem nowR_app (i k : Nat) (B : List FlaM.Act) : ∀ (A : List FlaM.Act), nowR (A ++ B) i k = (match nowR A i k with | some b => some b | none => nowR B i k)
  | [] => rfl
  | a :: A => by
    rw [List.cons_append, nowR_cons, nowR_cons]
    by_cases h1 : a.seg = i ∧ a.page = (k : Int)
    · rw [if_pos h1, if_pos h1]
    · rw [if_neg h1, if_neg h1]
      by_cases h2 : a.seg = i ∧ a.page < 0
      · rw [if_pos h2, if_pos h2]
      · rw [if_neg h2, if_neg h2, nowR_app i k B A]
/-- what one operation, done whole, makes of a page -/
def oneAt (a : FlaM.Act) (i k : Nat) (d : Bs) : Bs := if a.seg = i ∧ a.page = (k : Int) then a.b else if a.seg = i ∧ a.page < 0 then FlaM.blank else d
theorem nowR_one (a : FlaM.Act) (i k : Nat) (d : Bs) : (nowR [a] i k).getD d = oneAt a i k d := by
  unfold oneAt
  simp only [nowR]
  by_cases h1 : a.seg = i ∧ a.page = (k : Int)
  · rw [if_pos h1, if_pos h1]; rfl
  · rw [if_neg h1, if_neg h1]
    by_cases h2 : a.seg = i ∧ a.page < 0
    · rw [if_pos h2, if_pos h2]; rfl
    · rw [if_neg h2, if_neg h2]; rfl
theorem doOne_at {safe : List (List Bs)} {n pp : Nat} (h : Shape safe n pp) (hpp : pp ≤ 64) (a : FlaM.Act) (ha : a.seg < n ∧ ((0 ≤ a.page ∧ a.page < (pp : Int) ∧ a.b.length = 128) ∨ (a.page = -1 ∧ a.b = []))) (i k : Nat) (hi : i < n) (hk : k < pp) :
    pageAt (doOne pp safe a 128) i k = oneAt a i k (pageAt safe i k) := by
  unfold doOne oneAt
  rcases ha.2 with ⟨h1, h2, h3⟩ | ⟨h1, h3⟩
  · rw [if_pos h1]
    have hp : (pageAt safe a.seg a.page.toNat).length = 128 := h.pages _ _ ha.1 (by omega)
    have e : a.b.take (min (128 : Int).toNat 128) ++ (pageAt safe a.seg a.page.toNat).drop (min (128 : Int).toNat 128) = a.b := by
      rw [show min (128 : Int).toNat 128 = 128 from rfl, List.take_of_length_le (by omega), List.drop_of_length_le (by omega), List.append_nil]
    rw [e, setPage_at _ _ _ _ _ _ (by rw [h.len]; exact ha.1) (by rw [h.rows _ ha.1]; omega)]
    by_cases hc : a.seg = i ∧ a.page.toNat = k
    · rw [if_pos hc, if_pos ⟨hc.1, by have := hc.2; omega⟩]
    · rw [if_neg hc, if_neg (fun e => hc ⟨e.1, by have := e.2; omega⟩), if_neg (fun e => by have := e.2; omega)]
  · rw [if_neg (by omega), show min (128 : Int).toNat pp = pp from by show min 128 pp = pp; omega, clearTo_at _ _ _ _ _ (by rw [h.len]; exact ha.1) (by rw [h.rows _ ha.1]; exact Nat.le_refl _)]
    by_cases hc : a.seg = i
    · rw [if_pos ⟨hc, hk⟩, if_neg (fun e => by have := e.2; omega), if_pos ⟨hc, by omega⟩]
    · rw [if_neg (fun e => hc e.1), if_neg (fun e => hc e.1), if_neg (fun e => hc e.1)]
theorem doAll_at {n pp : Nat} (hpp : pp ≤ 64) (fates : List Int) (i k : Nat) (hi : i < n) (hk : k < pp) : ∀ (L : List FlaM.Act) (safe : List (List Bs)) (m : Nat), Shape safe n pp → (∀ a ∈ L, a.seg < n ∧ ((0 ≤ a.page ∧ a.page < (pp : Int) ∧ a.b.length = 128) ∨ (a.page = -1 ∧ a.b = []))) → (∀ j, j < L.length → fates.getD (m + j) 0 = 128) →
    pageAt (doAll pp fates safe m L) i k = (nowR L.reverse i k).getD (pageAt safe i k)
  | [], _, _, _, _, _ => rfl
  | a :: L, safe, m, h, ha, hf => by
    have h0 : fates.getD m 0 = 128 := hf 0 (Nat.zero_lt_succ _)
    show pageAt (doAll pp fates (doOne pp safe a (fates.getD m 0)) (m + 1) L) i k = _
    rw [h0, doAll_at hpp fates i k hi hk L _ (m + 1) (shape_one h a (ha a (List.mem_cons_self ..)) _) (fun x hx => ha x (List.mem_cons_of_mem _ hx)) (fun j hj => by have := hf (j + 1) (Nat.succ_lt_succ hj); rw [show m + 1 + j = m + (j + 1) from by omega]; exact this),
      doOne_at h hpp a (ha a (List.mem_cons_self ..)) i k hi hk, List.reverse_cons, nowR_app]
    cases hx : nowR L.reverse i k with
    | some b => rfl
    | none =>
      show oneAt a i k _ = (nowR [a] i k).getD _
      rw [nowR_one]
end Fla
end Go.Proofs.Ytmdphcebmgcdbaa

end
section
namespace Go.FlaM
/-- all that was done, done whole -/
def nowG (pp : Nat) (safe : List (List Bs)) (L : List Act) : List (List Bs) := L.foldl (fun g a => doOne pp g a 128) safe
theorem nowG_snoc (pp : Nat) (safe : List (List Bs)) (L : List Act) (a : Act) : nowG pp safe (L ++ [a]) = doOne pp (nowG pp safe L) a 128 := by simp [nowG, List.foldl_append]
def ActOk (n pp : Nat) (a : Act) : Prop := a.seg < n ∧ ((0 ≤ a.page ∧ a.page < (pp : Int) ∧ a.b.length = 128) ∨ (a.page = -1 ∧ a.b = []))
theorem nowG_shape {n pp : Nat} : ∀ (L : List Act) (safe : List (List Bs)), Shape safe n pp → (∀ a ∈ L, ActOk n pp a) → Shape (nowG pp safe L) n pp
  | [], _, h, _ => h
  | a :: L, safe, h, ha => nowG_shape L _ (shape_one h a (ha a (List.mem_cons_self ..)) 128) (fun x hx => ha x (List.mem_cons_of_mem _ hx))
/-- operations, each with what a function tells of its number -/
def doAllF (pp : Nat) (φ : Nat → Int) : List (List Bs) → Nat → List Act → List (List Bs)
  | safe, _, [] => safe
  | safe, i, a :: r => doAllF pp φ (doOne pp safe a (φ i)) (i + 1) r
theorem doAll_F (pp : Nat) (fates : List Int) : ∀ (L : List Act) (safe : List (List Bs)) (i : Nat), doAll pp fates safe i L = doAllF pp (fun i => fates.getD i 0) safe i L
  | [], _, _ => rfl
  | _ :: L, _, i => doAll_F pp fates L _ (i + 1)
theorem doOne_big {pp : Nat} (hpp : pp ≤ 64) (safe : List (List Bs)) (a : Act) (e e' : Int) (h : 128 ≤ e) (h' : 128 ≤ e') : doOne pp safe a e = doOne pp safe a e' := by
  unfold doOne
  rw [show min e.toNat 128 = min e'.toNat 128 by omega, show min e.toNat pp = min e'.toNat pp by omega]
theorem doAllF_big {pp : Nat} (hpp : pp ≤ 64) (φ : Nat → Int) (hφ : ∀ i, 128 ≤ φ i) : ∀ (L : List Act) (safe : List (List Bs)) (i : Nat), doAllF pp φ safe i L = nowG pp safe L
  | [], _, _ => rfl
  | a :: L, safe, i => by
    show doAllF pp φ (doOne pp safe a (φ i)) (i + 1) L = nowG pp (doOne pp safe a 128) L
    rw [doOne_big hpp safe a (φ i) 128 (hφ i) (by omega)]
    exact doAllF_big hpp φ hφ L _ (i + 1)
theorem doAll_whole {pp : Nat} (fates : List Int) : ∀ (L : List Act) (safe : List (List Bs)) (i : Nat), (∀ j, j < L.length → fates.getD (i + j) 0 = 128) → doAll pp fates safe i L = nowG pp safe L
  | [], _, _, _ => rfl
  | a :: L, safe, i, h => by
    show doAll pp fates (doOne pp safe a (fates.getD i 0)) (i + 1) L = nowG pp (doOne pp safe a 128) L
    have h0 : fates.getD i 0 = 128 := h 0 (Nat.zero_lt_succ _)
    rw [h0]
    exact doAll_whole fates L _ (i + 1) (fun j hj => by have := h (j + 1) (Nat.succ_lt_succ hj); rw [show i + 1 + j = i + (j + 1) by omega]; exact this)
theorem doAllF_step (pp : Nat) (φ : Nat → Int) (L : List Act) (g : List (List Bs)) (i : Nat) (a : Act) (h : L[i]? = some a) : doAllF pp φ g i (L.drop i) = doAllF pp φ (doOne pp g a (φ i)) (i + 1) (L.drop (i + 1)) := by
  obtain ⟨hl, rfl⟩ := List.getElem?_eq_some_iff.1 h
  rw [List.drop_eq_getElem_cons hl]
  rfl

/-! ### rows of pages, laid flat -/
def Wide (row : List Bs) : Prop := ∀ x ∈ row, x.length = 128
theorem flat_len : ∀ {row : List Bs}, Wide row → row.flatten.length = row.length * 128
  | [], _ => rfl
  | x :: row, h => by
    rw [List.flatten_cons, List.length_append, h x (List.mem_cons_self ..), flat_len (fun y hy => h y (List.mem_cons_of_mem _ hy)), List.length_cons]
    omega
theorem flat_page : ∀ {row : List Bs} (k : Nat), Wide row → k < row.length → (row.flatten.drop (k * 128)).take 128 = row.getD k []
  | [], _, _, hk => by simp at hk
  | x :: row, 0, h, _ => by
    have hx := h x (List.mem_cons_self ..)
    rw [Nat.zero_mul, List.drop_zero, List.flatten_cons, ← hx, List.take_left]
    rfl
  | x :: row, k + 1, h, hk => by
    have hx := h x (List.mem_cons_self ..)
    rw [List.flatten_cons, List.drop_append, List.drop_of_length_le (by omega), List.nil_append, hx, show (k + 1) * 128 - 128 = k * 128 by omega, flat_page k (fun y hy => h y (List.mem_cons_of_mem _ hy)) (by simpa using hk)]
    rfl
theorem flat_set : ∀ {row : List Bs} (k : Nat) (b : Bs), Wide row → k < row.length → (row.set k b).flatten = row.flatten.take (k * 128) ++ b ++ row.flatten.drop ((k + 1) * 128)
  | [], _, _, _, hk => by simp at hk
  | x :: row, 0, b, h, _ => by
    have hx := h x (List.mem_cons_self ..)
    rw [Nat.zero_mul, List.take_zero, List.nil_append, List.set_cons_zero, List.flatten_cons, List.flatten_cons, List.drop_append, List.drop_of_length_le (by omega), List.nil_append, hx, show (0 + 1) * 128 - 128 = 0 by omega, List.drop_zero]
  | x :: row, k + 1, b, h, hk => by
    have hx := h x (List.mem_cons_self ..)
    rw [List.set_cons_succ, List.flatten_cons, List.flatten_cons, flat_set k b (fun y hy => h y (List.mem_cons_of_mem _ hy)) (by simpa using hk), List.take_append, List.drop_append, List.take_of_length_le (i := (k + 1) * 128) (l := x) (by omega), List.drop_of_length_le (i := (k + 1 + 1) * 128) (l := x) (by omega), List.nil_append, hx,
      show (k + 1) * 128 - 128 = k * 128 by omega, show (k + 1 + 1) * 128 - 128 = (k + 1) * 128 by omega]
    simp only [List.append_assoc]
theorem wide_set {row : List Bs} (h : Wide row) (k : Nat) (b : Bs) (hb : b.length = 128) : Wide (row.set k b) := fun x hx => by
  rcases List.mem_or_eq_of_mem_set hx with h1 | rfl
  · exact h x h1
  · exact hb
theorem wide_of {G : List (List Bs)} {n pp : Nat} (h : Shape G n pp) (i : Nat) (hi : i < n) : Wide (G.getD i []) := fun x hx => by
  obtain ⟨k, hk, rfl⟩ := List.getElem_of_mem hx
  have hk2 : k < pp := by rw [h.rows i hi] at hk; exact hk
  have := h.pages i k hi hk2
  unfold pageAt at this
  rw [List.getD_eq_getElem?_getD, List.getElem?_eq_getElem hk] at this
  exact this
/-- the first m pages of a row are erased -/
def wipeTo (row : List Bs) : Nat → List Bs
  | 0 => row
  | m + 1 => (wipeTo row m).set m blank
theorem wipeTo_len (row : List Bs) (m : Nat) : (wipeTo row m).length = row.length := by
  induction m with
  | zero => rfl
  | succ m ih => rw [wipeTo, List.length_set, ih]
theorem wide_wipe {row : List Bs} (h : Wide row) (m : Nat) : Wide (wipeTo row m) := by
  induction m with
  | zero => exact h
  | succ m ih => exact wide_set ih m blank blank_len
theorem clear_row (G : List (List Bs)) (i m : Nat) (hi : i < G.length) : clearTo G i m = G.set i (wipeTo (G.getD i []) m) := by
  induction m with
  | zero =>
    show G = G.set i (G.getD i [])
    rw [List.getD_eq_getElem?_getD, List.getElem?_eq_getElem hi]
    exact (List.set_getElem_self hi).symm
  | succ m ih =>
    show setPage (clearTo G i m) i m blank = G.set i ((wipeTo (G.getD i []) m).set m blank)
    rw [ih]
    unfold setPage
    rw [getD_set_self _ _ _ _ hi, List.set_set]
end Go.FlaM
namespace Go.Proofs.Ytmdphcebmgcdbaa
open Go.RowKit Go.Own
namespace Fla
open Go.FlaM Byt
theorem nowG_at {s : FS} {N : Nat} (ok : Ok s N) (i k : Nat) (hi : i < s.safe.length) (hk : k < s.pp) : pageAt (nowG s.pp s.safe s.L) i k = now s i k := by
  have h := doAll_at (n := s.safe.length) ok.pp.2 (List.replicate s.L.length 128) i k hi hk s.L s.safe 0 ok.shape ok.acts (fun j hj => by rw [Nat.zero_add]; simp [List.getD, hj])
  rw [doAll_whole _ _ _ 0 (fun j hj => by rw [Nat.zero_add]; simp [List.getD, hj])] at h
  exact h
end Fla
end Go.Proofs.Ytmdphcebmgcdbaa

end
section
namespace Go.Own
open Go.RowKit Go.FlaM
section
variable {t e : TypeId}
def pRow (e : TypeId) (r : Option Addr × Nat) (row : List Bs) : Asn := ARow e 128 (gsl r row.length) row.length (row.flatten.map byteV)
def pParts (t e : TypeId) (v : Value) (rs : List (Option Addr × Nat)) (rows : List (List Bs)) : List Asn := gOuter t v rs rows :: List.zipWith (pRow e) rs rows
def PGrid (t e : TypeId) (v : Value) (rows : List (List Bs)) : Asn := AEx (α := { rs : List (Option Addr × Nat) // rs.length = rows.length }) fun rs => AJoin (pParts t e v rs.1 rows)

variable {B : Nat} {w0 w w' : World} {Ps Qs : List Asn} {v : Value} {rows : List (List Bs)}
theorem St.pOpen (h : St B w0 w (PGrid t e v rows :: Ps)) : ∃ rs, rs.length = rows.length ∧ St B w0 w (pParts t e v rs rows ++ Ps) := by
  obtain ⟨⟨rs, hl⟩, h⟩ := h.openE
  exact ⟨rs, hl, h.openJ⟩
theorem St.pClose {rs : List (Option Addr × Nat)} (hl : rs.length = rows.length) (h : St B w0 w (pParts t e v rs rows ++ Ps)) : St B w0 w (PGrid t e v rows :: Ps) :=
  St.closeE (α := { rs : List (Option Addr × Nat) // rs.length = rows.length }) (P := fun rs => AJoin (pParts t e v rs.1 rows)) ⟨rs, hl⟩ h.closeJ
/-- a row of a table: to the front, and back -/
theorem St.pRowAt (H : St B w0 w (PGrid t e v rows :: Ps)) (i : Nat) (row : List Bs) (hi : rows[i]? = some row) :
    ∃ (g c : Nat) (r : Option Addr × Nat) (Qs : List Asn), v = .slice (some ⟨g, 0, none⟩) rows.length c ∧ w.cell? ⟨g, i, none⟩ = some (gsl r row.length) ∧ St B w0 w (pRow e r row :: Qs) ∧
      ∀ (w' : World) (row' : List Bs), row'.length = row.length → St B w0 w' (pRow e r row' :: Qs) → St B w0 w' (PGrid t e v (rows.set i row') :: Ps) := by
  obtain ⟨rs, hl, h⟩ := H.pOpen
  have hil := (List.getElem?_eq_some_iff.1 hi).1
  have hr : rs[i]? = some rs[i] := List.getElem?_eq_getElem (by omega)
  have h0 : (pParts t e v rs rows ++ Ps)[0]? = some (gOuter t v rs rows) := rfl
  obtain ⟨ao0, c, rfl⟩ := h.rowForm 0 h0
  obtain ⟨g, rfl, ⟨u, hu, hc⟩, _, _⟩ := h.rowAt 0 h0 i (by omega)
  rw [zip_at _ _ _ _ _ _ hr hi] at hu
  cases hu
  have hz := zip_at (pRow e) rs rows i _ _ hr hi
  have hzl := (List.getElem?_eq_some_iff.1 hz).1
  have h1 : (pParts t e (.slice (some ⟨g, 0, none⟩) rows.length c) rs rows ++ Ps)[i + 1]? = some (pRow e rs[i] row) := by
    unfold pParts
    rw [List.cons_append, List.getElem?_cons_succ, List.getElem?_append_left hzl]
    exact hz
  refine ⟨g, c, rs[i], _, rfl, hc, h.front (i + 1) h1, fun w' row' hlen h' => ?_⟩
  refine St.pClose (rs := rs) (by rw [List.length_set]; exact hl) ?_
  have h2 := h'.back (i + 1) (List.getElem?_eq_some_iff.1 h1).1
  have e1 : (pParts t e (.slice (some ⟨g, 0, none⟩) rows.length c) rs rows ++ Ps).set (i + 1) (pRow e rs[i] row') = pParts t e (.slice (some ⟨g, 0, none⟩) rows.length c) rs (rows.set i row') ++ Ps := by
    unfold pParts
    rw [List.cons_append, List.set_cons_succ, List.set_append_left _ _ hzl, zip_set _ _ _ _ _ _ hr, List.cons_append]
    congr 1
    unfold gOuter
    rw [List.length_set, zip_same (fun r row => gsl r row.length) (fun r row => gsl r row.length) rs rows i row row' hi (fun r => by rw [hlen])]
  rw [← e1]
  exact h2
theorem perm_put {α : Type _} (Z : List α) (Ps : List α) (i : Nat) (x y : α) (h : Z[i]? = some y) : (Z ++ x :: Ps).Perm (y :: (Z.set i x ++ Ps)) := by
  obtain ⟨hl, rfl⟩ := List.getElem?_eq_some_iff.1 h
  have p1 : (Z ++ x :: Ps).Perm (x :: (Z ++ Ps)) := List.perm_middle
  have p2 : (Z[i] :: Z.eraseIdx i).Perm Z := erase_perm Z i hl
  have hl2 : i < (Z.set i x).length := by simpa using hl
  have p3 := erase_perm (Z.set i x) i hl2
  rw [List.getElem_set_self, List.eraseIdx_set_eq] at p3
  refine p1.trans ?_
  refine ((p2.symm.append_right Ps).cons x).trans ?_
  refine (List.Perm.swap Z[i] x _).trans ?_
  exact (p3.append_right Ps).cons _
/-- a row becomes part of a table, in another's place -/
theorem St.pPut {r : Option Addr × Nat} {row' : List Bs} (H : St B w0 w (PGrid t e v rows :: pRow e r row' :: Ps)) (i : Nat) (hi : i < rows.length) :
    ∃ (g c : Nat), v = .slice (some ⟨g, 0, none⟩) rows.length c ∧ (∃ u, w.cell? ⟨g, i, none⟩ = some u) ∧ w.frozen? ⟨g, i, none⟩ = false ∧ St B w0 (w.setCell ⟨g, i, none⟩ (gsl r row'.length)) (PGrid t e v (rows.set i row') :: Ps) := by
  obtain ⟨rs, hl, h⟩ := H.pOpen
  have hr : rs[i]? = some rs[i] := List.getElem?_eq_getElem (by omega)
  have hi2 : rows[i]? = some rows[i] := List.getElem?_eq_getElem hi
  have h0 : (pParts t e v rs rows ++ pRow e r row' :: Ps)[0]? = some (gOuter t v rs rows) := rfl
  obtain ⟨ao0, c, rfl⟩ := h.rowForm 0 h0
  obtain ⟨g, rfl, ⟨u, hu, hc⟩, hf, put⟩ := h.rowAt 0 h0 i (by omega)
  refine ⟨g, c, rfl, ⟨u, hc⟩, hf, ?_⟩
  have hp := put (gsl r row'.length)
  unfold pParts at hp
  rw [List.cons_append, List.set_cons_zero] at hp
  have hz := zip_at (pRow e) rs rows i _ _ hr hi2
  have h2 := (hp.perm ((perm_put _ Ps i (pRow e r row') _ hz).cons _)).drop2
  refine St.pClose (rs := rs.set i r) (by rw [List.length_set, List.length_set]; exact hl) ?_
  have e1 : pParts t e (.slice (some ⟨g, 0, none⟩) rows.length c) (rs.set i r) (rows.set i row') = gOuter t (.slice (some ⟨g, 0, none⟩) rows.length c) (rs.set i r) (rows.set i row') :: (List.zipWith (pRow e) rs rows).set i (pRow e r row') := by
    unfold pParts
    congr 1
    apply List.ext_getElem?
    intro j
    rw [List.getElem?_zipWith]
    by_cases hj : i = j
    · subst hj
      rw [List.getElem?_set_self (by omega), List.getElem?_set_self hi, List.getElem?_set_self (by rw [List.length_zipWith]; omega)]
    · rw [List.getElem?_set_ne hj, List.getElem?_set_ne hj, List.getElem?_set_ne hj, List.getElem?_zipWith]
  have e2 : gOuter t (.slice (some ⟨g, 0, none⟩) rows.length c) (rs.set i r) (rows.set i row') = ARow t 1 (.slice (some ⟨g, 0, none⟩) rows.length c) rows.length ((List.zipWith (fun r row => gsl r row.length) rs rows).set i (gsl r row'.length)) := by
    unfold gOuter
    rw [List.length_set]
    congr 1
    apply List.ext_getElem?
    intro j
    rw [List.getElem?_zipWith]
    by_cases hj : i = j
    · subst hj
      rw [List.getElem?_set_self (by omega), List.getElem?_set_self hi, List.getElem?_set_self (by rw [List.length_zipWith]; omega)]
    · rw [List.getElem?_set_ne hj, List.getElem?_set_ne hj, List.getElem?_set_ne hj, List.getElem?_zipWith]
  rw [e1, e2, List.cons_append]
  exact h2
theorem St.freshRows {e : TypeId} {size : Nat} {Q : Asn} : ∀ (n : Nat) {Ps : List Asn}, St B w0 w (Q :: Ps) → St B w0 w (Q :: (List.replicate n (ARow e size (.slice none 0 0) 0 []) ++ Ps))
  | 0, _, h => h
  | n + 1, _, h => by
    rw [List.replicate_succ, List.cons_append]
    exact (St.freshRows n h).rowFresh.swap2
/-- make([][]T, n) -/
theorem St.pMake {P : Program} {t2 : TypeId} {bytes : Nat} (O : One P t2 t (.slice none 0 0) bytes) (H : St B w0 w Ps) (kl kc : IntKind) (n : Nat) (hn : n ≤ 100000000) (b2 : bytes ≤ 1000) :
    ∃ w' g, (Instr.makeSlice t2 (.int kl (n : Int)) (.int kc (n : Int))).run P w = .ok (.slice (some ⟨g, 0, none⟩) n n) w' ∧ St B w0 w' (PGrid t e (.slice (some ⟨g, 0, none⟩) n n) (List.replicate n []) :: Ps) := by
  obtain ⟨w', g, hr, h⟩ := St.oneMake O H kl kc n hn b2 rfl
  refine ⟨w', g, hr, St.pClose (rs := List.replicate n (none, 0)) (by simp) ?_⟩
  have h2 := St.freshRows (e := e) (size := 128) n h
  have e1 : pParts t e (.slice (some ⟨g, 0, none⟩) n n) (List.replicate n (none, 0)) (List.replicate n []) = ARow t 1 (.slice (some ⟨g, 0, none⟩) n n) n (List.replicate n (.slice none 0 0)) :: List.replicate n (ARow e 128 (.slice none 0 0) 0 []) := by
    unfold pParts gOuter
    rw [List.zipWith_replicate, List.zipWith_replicate, List.length_replicate, Nat.min_self]
    rfl
  rw [e1, List.cons_append]
  exact h2
end
end Go.Own

end
section
namespace Go.Own
open Go.RowKit Go.FlaM
section
variable {B : Nat} {w0 w : World} {Ps : List Asn} {t e : TypeId}
variable {v : Value} {rows : List (List Bs)}
/-- a row of a table to the front, and back, others beside it -/
theorem St.pRowAtX (H : St B w0 w (PGrid t e v rows :: Ps)) (i : Nat) (row : List Bs) (hi : rows[i]? = some row) :
    ∃ (g c : Nat) (r : Option Addr × Nat) (Qs : List Asn), v = .slice (some ⟨g, 0, none⟩) rows.length c ∧ w.cell? ⟨g, i, none⟩ = some (gsl r row.length) ∧ St B w0 w (pRow e r row :: Qs) ∧
      ∀ (w' : World) (row' : List Bs) (Xs : List Asn), row'.length = row.length → St B w0 w' (Xs ++ pRow e r row' :: Qs) → St B w0 w' (Xs ++ PGrid t e v (rows.set i row') :: Ps) := by
  obtain ⟨rs, hl, h⟩ := H.pOpen
  have hil := (List.getElem?_eq_some_iff.1 hi).1
  have hr : rs[i]? = some rs[i] := List.getElem?_eq_getElem (by omega)
  have h0 : (pParts t e v rs rows ++ Ps)[0]? = some (gOuter t v rs rows) := rfl
  obtain ⟨ao0, c, rfl⟩ := h.rowForm 0 h0
  obtain ⟨g, rfl, ⟨u, hu, hc⟩, _, _⟩ := h.rowAt 0 h0 i (by omega)
  rw [zip_at _ _ _ _ _ _ hr hi] at hu
  cases hu
  have hz := zip_at (pRow e) rs rows i _ _ hr hi
  have hzl := (List.getElem?_eq_some_iff.1 hz).1
  have h1 : (pParts t e (.slice (some ⟨g, 0, none⟩) rows.length c) rs rows ++ Ps)[i + 1]? = some (pRow e rs[i] row) := by
    unfold pParts
    rw [List.cons_append, List.getElem?_cons_succ, List.getElem?_append_left hzl]
    exact hz
  refine ⟨g, c, rs[i], _, rfl, hc, h.front (i + 1) h1, fun w' row' Xs hlen h' => ?_⟩
  have hlt := (List.getElem?_eq_some_iff.1 h1).1
  have e1 : (pParts t e (.slice (some ⟨g, 0, none⟩) rows.length c) rs rows ++ Ps).set (i + 1) (pRow e rs[i] row') = pParts t e (.slice (some ⟨g, 0, none⟩) rows.length c) rs (rows.set i row') ++ Ps := by
    unfold pParts
    rw [List.cons_append, List.set_cons_succ, List.set_append_left _ _ hzl, zip_set _ _ _ _ _ _ hr, List.cons_append]
    congr 1
    unfold gOuter
    rw [List.length_set, zip_same (fun r row => gsl r row.length) (fun r row => gsl r row.length) rs rows i row row' hi (fun r => by rw [hlen])]
  have p1 := erase_perm ((pParts t e (.slice (some ⟨g, 0, none⟩) rows.length c) rs rows ++ Ps).set (i + 1) (pRow e rs[i] row')) (i + 1) (by simpa using hlt)
  rw [List.getElem_set_self, List.eraseIdx_set_eq, e1] at p1
  have h2 := (h'.perm (p1.append_left Xs)).perm_app
  have h3 := St.pClose (rs := rs) (by rw [List.length_set]; exact hl) h2
  exact h3.perm (by
    have : (PGrid t e (.slice (some ⟨g, 0, none⟩) rows.length c) (rows.set i row') :: (Ps ++ Xs)).Perm (Xs ++ (PGrid t e (.slice (some ⟨g, 0, none⟩) rows.length c) (rows.set i row') :: Ps)) := by
      rw [← List.cons_append]; exact List.perm_append_comm
    exact this)
end
end Go.Own

end
