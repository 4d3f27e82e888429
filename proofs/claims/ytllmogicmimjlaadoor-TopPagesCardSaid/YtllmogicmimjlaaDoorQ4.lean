/- Merged: RecR RedA RedB Cod CodA CodB CodC CodD CodE CodS RecRb RecP RecTb RecQ CodP -/
import Derived.Deep.MidRow
import Derived.Laws.StructEq
import Derived.Laws.Rows
import Derived.Great.Walk
import Derived.Lib.Hide
import Derived.Laws.BitsAllLaws
import Derived.Test.YtllmogicmimjlaaDoorRows
import Derived.WalkKit
import Derived.Deep.QuietTactic
import Derived.BigQuiet
import Derived.Deep.RegionLaw
import Derived.Deep.DeepMust
import Derived.WalkSpells
import Derived.WalkLawsBesides
import Derived.Test.YtllmogicmimjlaaDoorQ1
import Derived.Test.YtllmogicmimjlaaDoorQ2
set_option linter.unusedVariables false
section
namespace Go.Proofs.YtllmogicmimjlaaDoor
open Go.RowKit Go.Own
namespace Rec
open Go.RecM Byt

abbrev errN (n : Nat) : Value := .int .i64 (n : Int)
def keyC (s : RecM.Bs) (k : Nat) : List Value := s.map byteV ++ [.int .u32 (k : Int)]
/-- a note's cells; v is its Data -/
def ntC (n : Nte) (v : Value) : List Value := .int .u8 (n.kind.toNat : Int) :: .int .u32 (n.addr : Int) :: .int .u64 (n.seq : Int) :: (keyC n.sum n.kn ++ [v])
theorem keyC_len (s : RecM.Bs) (k : Nat) (h : s.length = 32) : (keyC s k).length = 33 := by unfold keyC; simp [h]
theorem ntC_len (n : Nte) (v : Value) (h : n.sum.length = 32) : (ntC n v).length = 37 := by unfold ntC; simp [keyC_len _ _ h]
theorem ntC_data (n : Nte) (v : Value) (h : n.sum.length = 32) : (ntC n v)[36]? = some v := by
  unfold ntC
  show (keyC n.sum n.kn ++ [v])[33]? = some v
  rw [List.getElem?_append_right (by rw [keyC_len _ _ h]; omega), keyC_len _ _ h]
  rfl
theorem ntC_kn (n : Nte) (v : Value) (h : n.sum.length = 32) : (ntC n v)[35]? = some (.int .u32 (n.kn : Int)) := by
  unfold ntC keyC
  show ((n.sum.map byteV ++ [_]) ++ [v])[32]? = _
  rw [List.append_assoc, List.getElem?_append_right (by simp [h]), List.length_map, h]
  rfl
theorem ntC_key (n : Nte) (v : Value) (j : Nat) (u : Value) (h : (keyC n.sum n.kn)[j]? = some u) : (ntC n v)[3 + j]? = some u := by
  unfold ntC
  rw [Nat.add_comm]
  show (keyC n.sum n.kn ++ [v])[j]? = some u
  rw [List.getElem?_append_left (List.getElem?_eq_some_iff.1 h).1]
  exact h
theorem ntC_sum (n : Nte) (v : Value) (j : Nat) (u : Value) (h : (n.sum.map byteV)[j]? = some u) : (ntC n v)[3 + j]? = some u := by
  refine ntC_key n v j u ?_
  unfold keyC
  rw [List.getElem?_append_left (List.getElem?_eq_some_iff.1 h).1]
  exact h
theorem ntC_one {n : Nte} {v : Value} (hv : v.oneCell' = true) : ∀ u ∈ ntC n v, u.oneCell' = true := by
  intro u hu
  unfold ntC keyC at hu
  simp only [List.mem_cons, List.mem_append, List.not_mem_nil, or_false] at hu
  rcases hu with rfl | rfl | rfl | (h | rfl) | rfl
  · rfl
  · rfl
  · rfl
  · exact byteV_one _ u h
  · rfl
  · exact hv
theorem info_key (cs : List Value) (h : cs.length = 33) : (Tryd.prog.info? 32).map (·.size) = some cs.length := by
  have h0 : (Tryd.prog.info? 32).map (fun i => i.size) = some 33 := by kernel_rfl
  rw [h]; exact h0
theorem info_note (cs : List Value) (h : cs.length = 37) : (Tryd.prog.info? 34).map (·.size) = some cs.length := by
  have h0 : (Tryd.prog.info? 34).map (fun i => i.size) = some 37 := by kernel_rfl
  rw [h]; exact h0
theorem info_noteA (cs : List Value) (h : cs.length = 37) : (Tryd.prog.info? 34).map (·.size) = some cs.toArray.size := by rw [List.size_toArray]; exact info_note cs h
/-- a key, a note are loaded, whatever the guard -/
theorem load_key (cs : List Value) (hl : cs.length = 33) {o : Oper} {x : Tmp} (ho : o.op = .load 32 (.tmp x)) {b k : Nat} (ρ : Operand → Value) {w : World} (hr : w.rangeAt b k cs) (h0 : ρ (.tmp x) = .pointer (some ⟨b, k, none⟩)) : (execOp ρ o).run Tryd.prog w = .ok (.value (.agg cs.toArray)) w := by
  have := run_loadAt_mid (P := Tryd.prog) w b k 32 cs _ hr Tryd.underlying32 rfl (info_key cs hl)
  unfold execOp
  simp only [ho, h0, Sem.run_bind, this, Result.andThen_ok, Sem.run_pure]
theorem load_note (cs : List Value) (hl : cs.length = 37) {o : Oper} {x : Tmp} (ho : o.op = .load 34 (.tmp x)) {b k : Nat} (ρ : Operand → Value) {w : World} (hr : w.rangeAt b k cs) (h0 : ρ (.tmp x) = .pointer (some ⟨b, k, none⟩)) : (execOp ρ o).run Tryd.prog w = .ok (.value (.agg cs.toArray)) w := by
  have := run_loadAt_mid (P := Tryd.prog) w b k 34 cs _ hr Tryd.underlying34 rfl (info_note cs hl)
  unfold execOp
  simp only [ho, h0, Sem.run_bind, this, Result.andThen_ok, Sem.run_pure]
theorem built_key0 : Tryd.prog.built 32 [] = some (keyC zsum 0).toArray := by kernel_rfl
theorem zero_key {o : Oper} (ho : o.op = .build 32 #[]) (ρ : Operand → Value) (w : World) : (execOp ρ o).run Tryd.prog w = .ok (.value (.agg (keyC zsum 0).toArray)) w := by
  have := run_build w 32 (#[] : Array (Nat × Value)) _ built_key0
  unfold execOp
  simp only [ho, List.map_toArray, List.map_nil, Sem.run_bind, this, Result.andThen_ok, Sem.run_pure]
theorem bytes_ints (l : RecM.Bs) : (l.map (fun x => (x.toNat : Int))).map (Value.int .u8) = l.map byteV := by
  rw [List.map_map]; rfl
theorem bytes_eq (a b : RecM.Bs) : decide (a.map (fun x => (x.toNat : Int)) = b.map (fun x => (x.toNat : Int))) = decide (a = b) := by
  apply decide_eq_decide.2
  constructor
  · intro h
    exact (List.map_inj_right (fun x y h => UInt8.toNat_inj.1 (by omega))).1 h
  · rintro rfl; rfl
theorem run_eq_sum (d : Nat) (a b : RecM.Bs) (ha : a.length = 32) (hb : b.length = 32) (w : World) : (Op.equalIn (d + 2) 29 (.agg (a.map byteV).toArray) (.agg (b.map byteV).toArray)).run Tryd.prog w = .ok (decide (a = b)) w := by
  have h := run_equalIn_ints (P := Tryd.prog) d 29 5 .u8 (a.map (fun x => (x.toNat : Int))) (b.map (fun x => (x.toNat : Int))) (by simp [ha, hb]) (by rw [List.length_map, ha]; exact Tryd.underlying29) Tryd.underlying5 (fun w => by kernel_rfl) (fun w => by kernel_rfl) w
  rw [bytes_eq, bytes_ints, bytes_ints] at h
  exact h
theorem key_fields : (Tryd.prog.fieldsOf 32).toList.map (fun f => (f.name, f.type, f.offset)) = [("Sum", 29, 0), ("N", 23, 32)] := by kernel_rfl
theorem part_sum (a : RecM.Bs) (x : Nat) (ha : a.length = 32) (w : World) : (part 29 (keyC a x).toArray 0).run Tryd.prog w = .ok (.agg (a.map byteV).toArray) w := by
  have h1 : ∀ w, (isAgg 29).run Tryd.prog w = .ok true w := fun w => by kernel_rfl
  have h2 : ∀ w, (sizeOf 29).run Tryd.prog w = .ok 32 w := fun w => by kernel_rfl
  have e : (keyC a x).toArray.extract 0 (0 + 32) = (a.map byteV).toArray := by
    unfold keyC
    rw [List.extract_toArray]
    congr 1
    rw [List.extract_eq_take_drop, List.drop_zero, List.take_append_of_le_length (by simp [ha]), List.take_of_length_le (by simp [ha])]
  unfold part
  simp only [Sem.run_bind, h1, h2, Result.andThen_ok, if_true, Sem.run_pure, e]
theorem part_kn (a : RecM.Bs) (x : Nat) (ha : a.length = 32) (w : World) : (part 23 (keyC a x).toArray 32).run Tryd.prog w = .ok (.int .u32 (x : Int)) w := by
  have h1 : ∀ w, (isAgg 23).run Tryd.prog w = .ok false w := fun w => by kernel_rfl
  have e : (keyC a x).toArray[32]? = some (.int .u32 (x : Int)) := by
    unfold keyC
    rw [List.getElem?_toArray, List.getElem?_append_right (by simp [ha]), List.length_map, ha]
    rfl
  unfold part
  simp only [Sem.run_bind, h1, Result.andThen_ok, Bool.false_eq_true, if_false, e, Sem.run_pure]
theorem run_eq_key (a b : RecM.Bs) (x y : Nat) (ha : a.length = 32) (hb : b.length = 32) (w : World) : (Op.equalIn 10000 32 (.agg (keyC a x).toArray) (.agg (keyC b y).toArray)).run Tryd.prog w = .ok (decide (a = b) && decide (x = y)) w := by
  have ht : Tryd.prog.underlying 32 = some (.struct (Tryd.prog.fieldsOf 32)) := by kernel_rfl
  have hp : Tryd.prog.stoodInHeld 32 = false := by kernel_rfl
  have h := run_equalIn_struct (P := Tryd.prog) w 9999 32 (keyC a x).toArray (keyC b y).toArray ht hp
  rw [h]
  have hf := key_fields
  match hl : (Tryd.prog.fieldsOf 32).toList with
  | [] => rw [hl] at hf; simp at hf
  | [_] => rw [hl] at hf; simp at hf
  | _ :: _ :: _ :: _ => rw [hl] at hf; simp at hf
  | [f0, f1] =>
    rw [hl] at hf
    simp only [List.map_cons, List.map_nil, List.cons.injEq, Prod.mk.injEq, and_true] at hf
    obtain ⟨⟨n0, t0, o0⟩, n1, t1, o1⟩ := hf
    have hs := run_eq_sum 9997 a b ha hb w
    have hi := run_equalIn_int (P := Tryd.prog) w 9998 23 .u32 .u32 (x : Int) (y : Int) Tryd.underlying23
    simp only [Op.eqFields, n0, t0, o0, n1, t1, o1, ne_eq, String.reduceEq, not_false_eq_true, if_true, Sem.run_bind, part_sum a x ha, part_sum b y hb, Result.andThen_ok]
    rw [hs]
    by_cases hab : a = b
    · subst hab
      simp only [decide_true, Result.andThen_ok, Bool.not_true, Bool.false_eq_true, if_false, Sem.run_bind, part_kn a x ha, part_kn a y ha, Bool.true_and]
      rw [hi]
      by_cases hxy : x = y
      · simp [hxy]
      · have hxy' : ¬ (x : Int) = (y : Int) := by omega
        simp [hxy, hxy']
    · simp [hab]
theorem kind_is (c : UInt8) : (c = 1 ↔ c.toNat = 1) ∧ (c = 2 ↔ c.toNat = 2) ∧ (c = 3 ↔ c.toNat = 3) ∧ (c = 4 ↔ c.toNat = 4) :=
  ⟨⟨fun h => by rw [h]; rfl, fun h => UInt8.toNat_inj.1 (by rw [h]; rfl)⟩, ⟨fun h => by rw [h]; rfl, fun h => UInt8.toNat_inj.1 (by rw [h]; rfl)⟩, ⟨fun h => by rw [h]; rfl, fun h => UInt8.toNat_inj.1 (by rw [h]; rfl)⟩, ⟨fun h => by rw [h]; rfl, fun h => UInt8.toNat_inj.1 (by rw [h]; rfl)⟩⟩
end Rec
end Go.Proofs.YtllmogicmimjlaaDoor

end
section
namespace Go.Proofs.YtllmogicmimjlaaDoor
open Go.RowKit Go.Own
namespace Rec
open Go.RecM Byt
/-- the fields that a kind has, a bit each -/
def fieldsN (k : Nat) : Nat := if k = 1 then 15 else if k = 2 then 3 else if k = 3 then 2 else if k = 4 then 12 else 0
theorem fieldsN_lt (k : Nat) : fieldsN k < 16 := by
  unfold fieldsN
  repeat (split; omega)
  omega
theorem fields_any (k : Nat) (hk : k < 256) (w : World) : Calls Tryd.prog 21 #[.int .u8 (k : Int)] w fun e w' => e = .returned (.int .u8 (fieldsN k : Int)) ∧ w = w' := by
  by_cases k1 : k = 1
  · subst k1
    go_enter Tryd.func21, Tryd.ntmps21
    go_wp2
    go_ret
    exact ⟨rfl, rfl⟩
  by_cases k2 : k = 2
  · subst k2
    go_enter Tryd.func21, Tryd.ntmps21
    go_wp2
    go_ret
    exact ⟨rfl, rfl⟩
  by_cases k3 : k = 3
  · subst k3
    go_enter Tryd.func21, Tryd.ntmps21
    go_wp2
    go_ret
    exact ⟨rfl, rfl⟩
  by_cases k4 : k = 4
  · subst k4
    go_enter Tryd.func21, Tryd.ntmps21
    go_wp2
    go_ret
    exact ⟨rfl, rfl⟩
  have hf : fieldsN k = 0 := by unfold fieldsN; rw [if_neg k1, if_neg k2, if_neg k3, if_neg k4]
  rw [hf]
  have e1 : ((k : Int) == 1) = false := by simp; omega
  have e2 : ((k : Int) == 2) = false := by simp; omega
  have e3 : ((k : Int) == 3) = false := by simp; omega
  have e4 : ((k : Int) == 4) = false := by simp; omega
  clear hf k1 k2 k3 k4 hk
  go_enter Tryd.func21, Tryd.ntmps21
  go_wp2
  go_ret
  exact ⟨rfl, rfl⟩
/-- the fields of a note that are not zero -/
def usedB (a s z l : Bool) : Nat := (if a then 1 else 0) + (if s then 2 else 0) + (if z then 4 else 0) + (if l then 8 else 0)
def usedN (n : Nte) : Nat := usedB (decide (n.addr ≠ 0)) (decide (n.seq ≠ 0)) (!(decide (n.sum = zsum) && decide (n.kn = 0))) (decide (0 < n.data.length))
theorem usedB_lt : ∀ a s z l : Bool, usedB a s z l < 16 := by decide
theorem usedN_lt (n : Nte) : usedN n < 16 := usedB_lt _ _ _ _
theorem neq_key {o : Oper} {x y : Tmp} (ho : o.op = .binOp .neq 32 (.tmp x) (.tmp y) 32) {a b : RecM.Bs} {m n : Nat} (ha : a.length = 32) (hb : b.length = 32) {v : Bool} (hv : (decide (a = b) && decide (m = n)) = v) (ρ : Operand → Value) (w : World)
    (h0 : ρ (.tmp x) = .agg (keyC a m).toArray) (h1 : ρ (.tmp y) = .agg (keyC b n).toArray) : (execOp ρ o).run Tryd.prog w = .ok (.value (.bool (!v))) w := by
  have h' := run_eq_key a b m n ha hb w
  rw [hv] at h'
  have hm : Tryd.prog.eqGuardType Tryd.prog.depth 32 = false := by kernel_rfl
  have hg := run_eqGuard_agg (P := Tryd.prog) w .neq 32 (.tmp x) (.tmp y) (keyC a m).toArray (keyC b n).toArray hm
  have hb := run_neq_struct (P := Tryd.prog) w 32 (keyC a m).toArray (keyC b n).toArray
  rw [h'] at hb
  unfold execOp
  simp only [ho, h0, h1, Sem.run_bind, hg, Result.andThen_ok, hb, Sem.run_pure]
set_option maxHeartbeats 3200000 in
theorem used_any (n : Nte) (hs : n.sum.length = 32) (ao : Option Addr) (len cap : Nat) (hl : n.data.length = len) (hb : len ≤ 1000000) (w : World) :
    Calls Tryd.prog 40 #[.agg (ntC n (.slice ao len cap)).toArray] w fun e w' => e = .returned (.int .u8 (usedN n : Int)) ∧ Below w.heap.size w w' := by
  obtain ⟨cs, hcs⟩ : ∃ cs, cs = ntC n (.slice ao len cap) := ⟨_, rfl⟩
  rw [← hcs]
  have hbox := (Own.St.start w).boxV 34 cs
  have cc : ∀ j v, cs[j]? = some v → (w.alloc (.cells cs.toArray 34)).cell? ⟨w.heap.size, j, none⟩ = some v := fun j v h => (hbox.cellV 0 rfl j h).1
  have c1 := cc 1 (.int .u32 (n.addr : Int)) (by rw [hcs]; rfl)
  have c2 := cc 2 (.int .u64 (n.seq : Int)) (by rw [hcs]; rfl)
  have c36 := cc 36 (.slice ao len cap) (by rw [hcs]; exact ntC_data n _ hs)
  have RK : Hid ((w.alloc (.cells cs.toArray 34)).rangeAt w.heap.size 3 (keyC n.sum n.kn)) := fun j v hv => cc (3 + j) v (by rw [hcs]; exact ntC_key n _ j v hv)
  have HB := Lib.hid hbox.below
  have KL := Lib.hid (keyC_len n.sum n.kn hs)
  have HS := Lib.hid hs
  have HZ : Hid (zsum.length = 32) := by show zsum.length = 32; simp [zsum]
  obtain ⟨r, hr⟩ : ∃ r, r = usedN n := ⟨_, rfl⟩
  rw [← hr]
  unfold usedN at hr
  rw [hl] at hr
  obtain ⟨ke, hke⟩ : ∃ b, (decide (n.sum = zsum) && decide (n.kn = 0)) = b := ⟨_, rfl⟩
  rw [hke] at hr
  have KE := Lib.hid hke
  obtain ⟨ad, had⟩ : ∃ a, a = n.addr := ⟨_, rfl⟩
  rw [← had] at c1 hr
  obtain ⟨sq, hsq⟩ : ∃ a, a = n.seq := ⟨_, rfl⟩
  rw [← hsq] at c2 hr
  clear hke cc hbox hcs had hsq hl
  by_cases ha : ad = 0 <;> by_cases hq : sq = 0 <;> by_cases hz : 0 < (len : Int) <;> cases ke
  all_goals
    (try subst ha)
    (try subst hq)
    have hz' : decide (0 < len) = decide (0 < (len : Int)) := by apply decide_eq_decide.2; omega
    rw [hz'] at hr
    first | simp only [hz, decide_true, decide_false, Bool.not_true, Bool.not_false, usedB, if_true, if_false, Bool.false_eq_true, ne_eq, not_false_eq_true, ha, hq, Nat.reduceAdd] at hr | simp only [hz, decide_true, decide_false, Bool.not_true, Bool.not_false, usedB, if_true, if_false, Bool.false_eq_true, ne_eq, not_true_eq_false, not_false_eq_true, ha, Nat.reduceAdd] at hr | simp only [hz, decide_true, decide_false, Bool.not_true, Bool.not_false, usedB, if_true, if_false, Bool.false_eq_true, ne_eq, not_true_eq_false, not_false_eq_true, hq, Nat.reduceAdd] at hr | simp only [hz, decide_true, decide_false, Bool.not_true, Bool.not_false, usedB, if_true, if_false, Bool.false_eq_true, ne_eq, not_true_eq_false, Nat.reduceAdd] at hr
    subst hr
    clear hz'
    go_enter Tryd.func40, Tryd.ntmps40
    go_wp2_with (first
      | (refine wpList_val rfl (load_key _ KL.out rfl _ RK.out rfl) ?_)
      | (refine wpList_val rfl (zero_key rfl _ _) ?_)
      | (refine wpList_val rfl (neq_key rfl HS.out HZ.out KE.out _ _ rfl rfl) ?_))
    go_ret
    exact ⟨rfl, HB.out⟩
end Rec
end Go.Proofs.YtllmogicmimjlaaDoor

end
section
namespace Go.Proofs.YtllmogicmimjlaaDoor
open Go.RowKit Go.Own
namespace Rec
open Go.RecM Byt
/-- the fields that a note has, and a kind has not -/
def overN (n : Nte) : Nat := usedN n &&& (255 - fieldsN n.kind.toNat)
theorem usedB_none : ∀ a s z l : Bool,
    (decide (usedB a s z l &&& (255 - 15) = 0) = true) ∧
    (decide (usedB a s z l &&& (255 - 3) = 0) = (!z && !l)) ∧
    (decide (usedB a s z l &&& (255 - 2) = 0) = (!a && !z && !l)) ∧
    (decide (usedB a s z l &&& (255 - 12) = 0) = (!a && !s)) := by decide
theorem right_by (n : Nte) : right n = (decide (fieldsN n.kind.toNat ≠ 0) && decide (overN n = 0) && decide (n.data.length ≤ 300) && (decide (n.kind.toNat ≠ 4) || decide (0 < n.data.length))) := by
  obtain ⟨i1, i2, i3, i4⟩ := kind_is n.kind
  obtain ⟨u1, u2, u3, u4⟩ := usedB_none (decide (n.addr ≠ 0)) (decide (n.seq ≠ 0)) (!(decide (n.sum = zsum) && decide (n.kn = 0))) (decide (0 < n.data.length))
  unfold right overN fieldsN usedN
  obtain ⟨k, hk⟩ : ∃ k, k = n.kind.toNat := ⟨_, rfl⟩
  rw [← hk] at i1 i2 i3 i4 ⊢
  have hz : decide (n.data.length = 0) = !decide (0 < n.data.length) := by
    by_cases h : n.data.length = 0 <;> simp [h] <;> omega
  by_cases k1 : k = 1
  · rw [if_pos (i1.2 k1), if_pos k1, u1]
    simp [k1]
  rw [if_neg (fun h => k1 (i1.1 h)), if_neg k1]
  by_cases k2 : k = 2
  · rw [if_pos (i2.2 k2), if_pos k2, u2, hz]
    simp [k2, Bool.and_comm]
  rw [if_neg (fun h => k2 (i2.1 h)), if_neg k2]
  by_cases k3 : k = 3
  · rw [if_pos (i3.2 k3), if_pos k3, u3, hz]
    simp [k3, Bool.and_comm, Bool.and_assoc, Bool.and_left_comm]
  rw [if_neg (fun h => k3 (i3.1 h)), if_neg k3]
  by_cases k4 : k = 4
  · rw [if_pos (i4.2 k4), if_pos k4, u4]
    simp [k4, Bool.and_comm, Bool.and_assoc, Bool.and_left_comm]
  rw [if_neg (fun h => k4 (i4.1 h)), if_neg k4]
  simp
set_option maxHeartbeats 3200000 in
theorem lRight_any (n : Nte) (hs : n.sum.length = 32) (ao : Option Addr) (len cap : Nat) (hl : n.data.length = len) (hb : len ≤ 1000000) (w : World) :
    Calls Tryd.prog 18 #[.agg (ntC n (.slice ao len cap)).toArray] w fun e w' => e = .returned (.bool (right n)) ∧ Below w.heap.size w w' := by
  obtain ⟨cs, hcs⟩ : ∃ cs, cs = ntC n (.slice ao len cap) := ⟨_, rfl⟩
  have hbox := (Own.St.start w).boxV 34 cs
  obtain ⟨w1, hw1⟩ : ∃ w1, w1 = w.alloc (.cells cs.toArray 34) := ⟨_, rfl⟩
  rw [← hw1] at hbox
  have CU : Hid (∀ wx, Below w1.heap.size w1 wx → Calls Tryd.prog 40 #[.agg cs.toArray] wx fun e w' => e = .returned (.int .u8 (usedN n : Int)) ∧ Below wx.heap.size wx w') := by
    rw [hcs]
    exact fun wx _ => used_any n hs ao len cap hl hb wx
  have NL : Hid (cs.length = 37) := by show cs.length = 37; rw [hcs]; exact ntC_len n _ hs
  have RN : Hid (w1.rangeAt w.heap.size 0 cs) := fun j v hv => by rw [Nat.zero_add]; exact (hbox.cellV 0 rfl j hv).1
  have cc : ∀ wx, Below w1.heap.size w1 wx → ∀ j v, cs[j]? = some v → wx.cell? ⟨w.heap.size, j, none⟩ = some v := fun wx hwx j v h => ((hbox.later hwx).cellV 0 rfl j h).1
  have C0 : Hid (∀ wx, Below w1.heap.size w1 wx → wx.cell? ⟨w.heap.size, 0, none⟩ = some (.int .u8 (n.kind.toNat : Int))) := fun wx hwx => cc wx hwx 0 _ (by rw [hcs]; rfl)
  have C36 : Hid (∀ wx, Below w1.heap.size w1 wx → wx.cell? ⟨w.heap.size, 36, none⟩ = some (.slice ao len cap)) := fun wx hwx => cc wx hwx 36 _ (by rw [hcs]; exact ntC_data n _ hs)
  have HB := Lib.hid hbox
  have hr := right_by n
  rw [hl] at hr
  obtain ⟨r, hrr⟩ : ∃ r, r = right n := ⟨_, rfl⟩
  rw [← hrr] at hr ⊢
  have hkl : n.kind.toNat < 256 := n.kind.toNat_lt
  obtain ⟨k, hk⟩ : ∃ k, k = n.kind.toNat := ⟨_, rfl⟩
  rw [← hk] at hr C0 hkl
  have FO : Hid (∀ w, Calls Tryd.prog 21 #[.int .u8 (k : Int)] w fun e w' => e = .returned (.int .u8 (fieldsN k : Int)) ∧ w = w') := fun w => fields_any k hkl w
  have fl := fieldsN_lt k
  have ul := usedN_lt n
  have AN : bits .andNot .u8 (usedN n : Int) (fieldsN k : Int) = (overN n : Int) := by rw [u8_andNot_nat _ _ (by omega) (by omega)]; unfold overN; rw [hk]
  obtain ⟨f, hf⟩ : ∃ f, f = fieldsN k := ⟨_, rfl⟩
  rw [← hf] at hr FO AN
  obtain ⟨u, hu⟩ : ∃ u, u = usedN n := ⟨_, rfl⟩
  rw [← hu] at AN CU
  obtain ⟨m, hm⟩ : ∃ m, m = overN n := ⟨_, rfl⟩
  rw [← hm] at hr AN
  have HW1 := Lib.hid hw1
  rw [← hcs]
  have c0 := C0.out w1 (Below.refl _ _)
  rw [hw1] at c0
  clear hw1 hcs hbox cc hrr hk hf hu hm fl ul hs hl
  by_cases f0 : f = 0
  · subst f0
    simp only [ne_eq, not_true_eq_false, decide_false, Bool.false_and] at hr
    subst hr
    clear AN CU
    go_enter Tryd.func18, Tryd.ntmps18
    go_wp2_with (fail)
    rw [← HW1.out]
    refine (FO.out _).mono ?_
    rintro e w2 ⟨rfl, rfl⟩
    go_wp2_with (fail)
    go_ret
    exact ⟨rfl, HB.out.below⟩
  have f0' : ((f : Int) == 0) = false := by simp; omega
  rw [decide_eq_true f0, Bool.true_and] at hr
  by_cases m0 : m = 0
  · subst m0
    rw [decide_eq_true rfl, Bool.true_and] at hr
    by_cases hl3 : (len : Int) > 300
    · rw [decide_eq_false (by omega), Bool.false_and] at hr
      subst hr
      go_enter Tryd.func18, Tryd.ntmps18
      go_wp2_with (fail)
      rw [← HW1.out]
      refine (FO.out _).mono ?_
      rintro e w2 ⟨rfl, rfl⟩
      go_wp2_with (refine wpList_val rfl (load_note cs NL.out rfl _ (b := w.heap.size) (k := 0) RN.out rfl) ?_)
      refine (CU.out _ (Below.refl _ _)).mono ?_
      rintro e w3 ⟨rfl, h3⟩
      have d36 := C36.out _ h3
      have H3 := Lib.hid (HB.out.below.trans (h3.mono HB.out.below.size))
      clear h3
      go_wp2
      go_ret
      exact ⟨rfl, H3.out⟩
    rw [decide_eq_true (by omega), Bool.true_and] at hr
    by_cases k4 : k = 4
    · subst k4
      by_cases hl0 : (len : Int) > 0
      · have hl0' : 0 < len := by omega
        simp only [ne_eq, not_true_eq_false, decide_false, Bool.false_or, hl0', decide_true] at hr
        subst hr
        go_enter Tryd.func18, Tryd.ntmps18
        go_wp2_with (fail)
        rw [← HW1.out]
        refine (FO.out _).mono ?_
        rintro e w2 ⟨rfl, rfl⟩
        go_wp2_with (refine wpList_val rfl (load_note cs NL.out rfl _ (b := w.heap.size) (k := 0) RN.out rfl) ?_)
        refine (CU.out _ (Below.refl _ _)).mono ?_
        rintro e w3 ⟨rfl, h3⟩
        have d36 := C36.out _ h3
        have d0 := C0.out _ h3
        have H3 := Lib.hid (HB.out.below.trans (h3.mono HB.out.below.size))
        clear h3
        go_wp2
        go_ret
        exact ⟨rfl, H3.out⟩
      · have hl0' : ¬ 0 < len := by omega
        simp only [ne_eq, not_true_eq_false, decide_false, Bool.false_or, hl0'] at hr
        subst hr
        go_enter Tryd.func18, Tryd.ntmps18
        go_wp2_with (fail)
        rw [← HW1.out]
        refine (FO.out _).mono ?_
        rintro e w2 ⟨rfl, rfl⟩
        go_wp2_with (refine wpList_val rfl (load_note cs NL.out rfl _ (b := w.heap.size) (k := 0) RN.out rfl) ?_)
        refine (CU.out _ (Below.refl _ _)).mono ?_
        rintro e w3 ⟨rfl, h3⟩
        have d36 := C36.out _ h3
        have d0 := C0.out _ h3
        have H3 := Lib.hid (HB.out.below.trans (h3.mono HB.out.below.size))
        clear h3
        go_wp2
        go_ret
        exact ⟨rfl, H3.out⟩
    · rw [decide_eq_true k4, Bool.true_or] at hr
      subst hr
      have k4i : ¬ (k : Int) = 4 := by omega
      have k4b : ((k : Int) != 4) = true := by simp; omega
      go_enter Tryd.func18, Tryd.ntmps18
      go_wp2_with (fail)
      rw [← HW1.out]
      refine (FO.out _).mono ?_
      rintro e w2 ⟨rfl, rfl⟩
      go_wp2_with (refine wpList_val rfl (load_note cs NL.out rfl _ (b := w.heap.size) (k := 0) RN.out rfl) ?_)
      refine (CU.out _ (Below.refl _ _)).mono ?_
      rintro e w3 ⟨rfl, h3⟩
      have d36 := C36.out _ h3
      have d0 := C0.out _ h3
      have H3 := Lib.hid (HB.out.below.trans (h3.mono HB.out.below.size))
      clear h3
      go_wp2
      go_ret
      exact ⟨rfl, H3.out⟩
  · rw [decide_eq_false m0, Bool.false_and, Bool.false_and] at hr
    subst hr
    have m0i : ¬ (m : Int) = 0 := by omega
    have m0b : ((m : Int) != 0) = true := by simp; omega
    go_enter Tryd.func18, Tryd.ntmps18
    go_wp2_with (fail)
    rw [← HW1.out]
    refine (FO.out _).mono ?_
    rintro e w2 ⟨rfl, rfl⟩
    go_wp2_with (refine wpList_val rfl (load_note cs NL.out rfl _ (b := w.heap.size) (k := 0) RN.out rfl) ?_)
    refine (CU.out _ (Below.refl _ _)).mono ?_
    rintro e w3 ⟨rfl, h3⟩
    have H3 := Lib.hid (HB.out.below.trans (h3.mono HB.out.below.size))
    clear h3
    go_wp2
    go_ret
    exact ⟨rfl, H3.out⟩
/-- a cell of a note's fingerprint -/
theorem ntC_sum_at {cs : List Value} {n : Nte} {v : Value} (hcs : cs = ntC n v) (_hs : n.sum.length = 32) (j : Nat) (hj : j < n.sum.length) : cs[3 + j]? = some (byteV (n.sum.getD j 0)) := by
  rw [hcs]
  refine ntC_sum n v j _ ?_
  rw [List.getElem?_map, List.getD_eq_getElem?_getD, List.getElem?_eq_getElem hj]
  rfl
end Rec
end Go.Proofs.YtllmogicmimjlaaDoor

end
section
namespace Go.Proofs.YtllmogicmimjlaaDoor
open Go.RowKit Go.Own

theorem Tryd.infoU8 : (Tryd.prog.info? 5).map (fun i => (i.zero, i.size, i.bytes)) = some (some (.int .u8 0), 1, 1) := by kernel_rfl

namespace Cod

/-- the many lowest bytes of n, the least significant one first -/
def le (n : Nat) : Nat → List UInt8
  | 0 => []
  | k + 1 => le n k ++ [UInt8.ofNat (n / 2 ^ (8 * k))]
theorem le_len (n k : Nat) : (le n k).length = k := by induction k <;> simp [le, *]

theorem le_byte (n k : Nat) : IntKind.u8.wrap ((n : Int) / 2 ^ (8 * (k : Int)).toNat) = ((UInt8.ofNat (n / 2 ^ (8 * k))).toNat : Int) := by
  have e : (8 * (k : Int)).toNat = 8 * k := by omega
  rw [e, IntKind.wrap_u8]
  simp

/-- a writer as plain data: its room, what was written, its first error -/
structure WS where
  room : Int
  xs : List UInt8
  err : Int

def WS.lay (s : WS) (bs : List UInt8) : WS := if s.err ≠ 0 then s else if s.room - s.xs.length < bs.length then { s with err := 4 } else { s with xs := s.xs ++ bs }
def WS.num (s : WS) (n : Nat) (many : Int) : WS := if s.err ≠ 0 then s else if many < 0 ∨ 8 < many then { s with err := 1 } else s.lay (le n many.toNat)
def WS.blob (s : WS) (bs : List UInt8) : WS := if s.err ≠ 0 then s else if 65535 < bs.length then { s with err := 4 } else s.lay (le bs.length 2 ++ bs)

/-- What a writer is in memory: its block, its row, and all the blocks that it holds. -/
def Wr (w : World) (S : Nat → Prop) (p : Nat) (s : WS) : Prop :=
  ∃ v T, w.heap[p]? = some (.cells #[.int .i64 s.room, v, .int .i64 s.err] 85 (0, 0)) ∧ Row w 5 1 T v s.xs.length (s.xs.map byteV) ∧ ¬ T p ∧ (∀ k, S k ↔ (k = p ∨ T k)) ∧ 0 ≤ s.room ∧ s.room ≤ 9223372036854775807

/-- the writer is so, and only its blocks have turned -/
def WrTo (S : Nat → Prop) (p : Nat) (s : WS) (w w' : World) : Prop := ∃ S', Wr w' S' p s ∧ Step S S' w w'

theorem Wr.keep {w w' : World} {S T U : Nat → Prop} {p : Nat} {s : WS} (h : Wr w S p s) (g : Step T U w w') (hd : Dis S T) : Wr w' S p s := by
  obtain ⟨v, R, hb, hr, hR, hS, h0, h1⟩ := h
  exact ⟨v, R, (g.block p (lt_of_block hb) (hd p ((hS p).2 (.inl rfl)))).trans hb, hr.step g (fun k hk => hd k ((hS k).2 (.inr hk))), hR, hS, h0, h1⟩

theorem Wr.lt {w : World} {S : Nat → Prop} {p : Nat} {s : WS} (h : Wr w S p s) : ∀ k, S k → k < w.heap.size := by
  obtain ⟨v, R, hb, hr, hR, hS, h0, h1⟩ := h
  intro k hk
  rcases (hS k).1 hk with rfl | h
  · exact lt_of_block hb
  · exact hr.lt k h

theorem Wr.drewN {w : World} {S : Nat → Prop} {p : Nat} {s : WS} (h : Wr w S p s) (n : Nat) : WrTo S p s w (w.drewN n) :=
  ⟨S, h.keep (T := fun _ => False) (U := fun _ => False) ((Step.refl _ _).drewN n) (fun _ _ h => h), (Step.refl _ _).drewN n⟩

theorem WrTo.trans {S : Nat → Prop} {p : Nat} {s s' : WS} {w w1 w2 : World} (h : WrTo S p s w w1) (g : ∀ S', Wr w1 S' p s → WrTo S' p s' w1 w2) : WrTo S p s' w w2 := by
  obtain ⟨S', h1, h2⟩ := h
  obtain ⟨S'', h3, h4⟩ := g S' h1
  exact ⟨S'', h3, h2.trans h4⟩

/-- the error is set -/
theorem Wr.fault {w : World} {S : Nat → Prop} {p : Nat} {s : WS} (h : Wr w S p s) (n : Nat) (x : Int) : WrTo S p { s with err := x } w ((w.drewN n).setCell ⟨p, 2, none⟩ (.int .i64 x)) := by
  obtain ⟨v, R, hb, hr, hR, hS, h0, h1⟩ := h
  have g : Step (fun k => k = p) (fun k => k = p) w ((w.drewN n).setCell ⟨p, 2, none⟩ (.int .i64 x)) := ((Step.refl (fun k => k = p) w).drewN n).setCell (a := ⟨p, 2, none⟩) (Or.inl rfl) _
  refine ⟨S, ⟨v, R, ?_, hr.step g (fun k h e => hR (e ▸ h)), hR, hS, h0, h1⟩, ((Step.refl S w).drewN n).setCell (a := ⟨p, 2, none⟩) (Or.inl ((hS p).2 (.inl rfl))) _⟩
  have e : (w.drewN n).heap[p]? = some (.cells #[.int .i64 s.room, v, .int .i64 s.err] 85 (0, 0)) := hb
  rw [block_setCell e]
  rfl

theorem Wr.push {wr w0 w1 : World} {S T T' : Nat → Prop} {p : Nat} {s : WS} {v v' : Value} {c : UInt8}
    (hb : wr.heap[p]? = some (.cells #[.int .i64 s.room, v, .int .i64 s.err] 85 (0, 0))) (hT : ¬ T p) (hS : ∀ k, S k ↔ (k = p ∨ T k)) (hr0 : 0 ≤ s.room) (hr1 : s.room ≤ 9223372036854775807)
    (h0 : Step T T wr w0) (hs : Step T T' w0 w1) (hr : Row w1 5 1 T' v' (s.xs.length + 1) (s.xs.map byteV ++ [byteV c])) :
    WrTo S p { s with xs := s.xs ++ [c] } wr (w1.setCell ⟨p, 1, none⟩ v') := by
  have hp := lt_of_block hb
  have h1 := h0.trans hs
  have hT' : ¬ T' p := fun h => (h1.new p h).elim hT (fun h => by omega)
  have hb1 : w1.heap[p]? = _ := (h1.block p hp hT).trans hb
  refine ⟨fun k => k = p ∨ T' k, ⟨v', T', by rw [block_setCell hb1]; rfl, ?_, hT', fun _ => Iff.rfl, hr0, hr1⟩, ?_⟩
  · have e : (s.xs ++ [c]).length = s.xs.length + 1 := by simp
    show Row _ _ _ _ _ (s.xs ++ [c]).length ((s.xs ++ [c]).map byteV)
    rw [e, List.map_append]
    exact hr.step (S := fun k => k = p) (U := fun k => k = p) ((Step.refl (fun k => k = p) w1).setCell (a := ⟨p, 1, none⟩) (Or.inl rfl) _) (fun k h e => hT' (e ▸ h))
  · have h2 : Step S (fun k => k = p ∨ T' k) wr w1 := ⟨h1.os, h1.tape, h1.output, h1.size, fun k hk hs => h1.block k hk (fun ht => hs ((hS k).2 (.inr ht))), fun k hk => hk.elim (fun e => .inl ((hS k).2 (.inl e))) (fun ht => (h1.new k ht).imp_left fun h => (hS k).2 (.inr h))⟩
    exact h2.setCell (Or.inl ((hS p).2 (.inl rfl))) _

/-- a call that answers nothing and leaves a writer so -/
def WDone (S : Nat → Prop) (p : Nat) (s : WS) (w : World) (e : Ending) (w' : World) : Prop := e = .returned (.tuple #[]) ∧ WrTo S p s w w'

set_option maxHeartbeats 400000 in
theorem putNum_any (S : Nat → Prop) (p : Nat) (s : WS) (n many : Nat) (w : World)
    (hW : Wr w S p s) (hm : many ≤ 8) (hxs : s.xs.length ≤ 100000000) :
    Calls Tryd.prog 42 #[.pointer (some ⟨p, 0, none⟩), .int .u64 n, .int .i64 many] w (WDone S p { s with xs := s.xs ++ le n many } w) := by
  obtain ⟨i0, hi, hz0, hz1, hz2⟩ := info_parts Tryd.infoU8
  go_enter Tryd.func42, Tryd.ntmps42
  go_wp2
  go_loopw [6, 8] (fun _ i wr => ∃ k : Nat, k ≤ many ∧ i = .int .i64 k ∧ WrTo S p { s with xs := s.xs ++ le n k } w wr) (fun _ i _ => many - (intOf i).toNat)
  case atStart => exact ⟨0, Nat.zero_le _, rfl, S, by simpa [le] using hW, Step.refl _ _⟩
  case round =>
    obtain ⟨k, hk, rfl, S', ⟨v, T, hb, hrow, hT, hS, hr0, hr1⟩, hst⟩ := hrel
    have hlen : (s.xs ++ le n k).length ≤ 100000008 := by rw [List.length_append, le_len]; omega
    obtain ⟨ao, cap, rfl, hc1, hc2, -⟩ := hrow.form
    have h1 := cell_of_block (i := 1) hb rfl
    have hp := lt_of_block hb
    by_cases hlt : k < many
    · have hk8 : IntKind.i64.wrap (8 * (k : Int)) = 8 * (k : Int) := IntWalk.i64_in _ (by omega)
      have hk0 : (0 : Int) ≤ 8 * (k : Int) := by omega
      obtain ⟨c, hc⟩ : ∃ c, c = UInt8.ofNat (n / 2 ^ (8 * k)) := ⟨_, rfl⟩
      have hB : IntKind.u8.wrap ((n : Int) / 2 ^ (8 * (k : Int)).toNat) = (c.toNat : Int) := by rw [hc]; exact le_byte n k
      have HC := Lib.hid hc
      clear hc
      generalize hys : s.xs ++ le n k = ys at *
      have HY := Lib.hid hys
      clear hys
      simp only at hb hrow hr0 hr1 h1 hlen hc1
      go_wp2
      go_region_law (refine step_append_row rfl (.tmp 15) (.tmp 21) 22 rfl 5 i0 (.int .u8 0) 1 1 Tryd.underlying22 hi hz0 hz1 hz2 rfl (by decide) _ _ _ (by simp [Act.eval]) (hrow.alloc _).drew (some ⟨wr.heap.size, 0, none⟩) 1 1 [byteV c] (by simp [Act.eval]) (by intro h; cases h) rfl (cell_new_byte _ _ _) (byteV_one [_]) (by unfold maxLen; omega) (by omega) ?_; intro v' w1 T' hr' hs'; obtain ⟨ao', cap', rfl, -⟩ := hr'.form; have hb1 := ((((Step.refl T wr).alloc _).drew).trans hs').block p (lt_of_block hb) hT |>.trans hb; have c1 := cell_of_block (i := 1) hb1 rfl; have f1 := frozen_of_block (i := 1) hb1)
      all_goals
        have r := Wr.push (s := { s with xs := ys }) hb hT hS hr0 hr1 (((Step.refl T wr).alloc _).drew) hs' hr'
        clear hb1 c1 f1
        go_wp2
        go_roundw
        case rel =>
          obtain ⟨S'', r1, r2⟩ := r
          exact ⟨k + 1, by omega, by go_num, S'', by rw [le, ← List.append_assoc, HY.out, ← HC.out]; exact r1, hst.trans r2⟩
        case measure => simp [intOf]; omega
    · have hkm : k = many := by omega
      have HK := Lib.hid hkm
      clear hkm
      go_wp2
      go_end0
      exact ⟨rfl, S', by rw [← HK.out]; exact ⟨_, T, hb, hrow, hT, hS, hr0, hr1⟩, hst⟩

set_option maxHeartbeats 400000 in
theorem putBytes_any (S D : Nat → Prop) (p : Nat) (s : WS) (ao : Option Addr) (bs : List UInt8) (cap : Nat) (w : World)
    (hW : Wr w S p s) (hV : View w D ao bs) (hD : Dis D S) (hbs : bs.length ≤ 100000000) (hxs : s.xs.length ≤ 100000000) :
    Calls Tryd.prog 43 #[.pointer (some ⟨p, 0, none⟩), .slice ao bs.length cap] w (WDone S p { s with xs := s.xs ++ bs } w) := by
  obtain ⟨i0, hi, hz0, hz1, hz2⟩ := info_parts Tryd.infoU8
  obtain ⟨len, hl⟩ : ∃ len, len = bs.length := ⟨_, rfl⟩
  rw [← hl]
  rw [← hl] at hbs
  have HL := Lib.hid hl
  clear hl
  go_enter Tryd.func43, Tryd.ntmps43
  go_wp2
  go_loopw [4, 7] (fun _ i wr => ∃ k : Nat, k ≤ len ∧ i = .int .i64 k ∧ WrTo S p { s with xs := s.xs ++ bs.take k } w wr) (fun _ i _ => len - (intOf i).toNat)
  case atStart => exact ⟨0, Nat.zero_le _, rfl, S, by simpa using hW, Step.refl _ _⟩
  case round =>
    obtain ⟨k, hk, rfl, S', ⟨v, T, hb, hrow, hT, hS, hr0, hr1⟩, hst⟩ := hrel
    have hlen : (s.xs ++ bs.take k).length ≤ 200000000 := by have := HL.out; rw [List.length_append, List.length_take]; omega
    obtain ⟨ao', cap', rfl, hc1, hc2, -⟩ := hrow.form
    have h1 := cell_of_block (i := 1) hb rfl
    have hp := lt_of_block hb
    by_cases hlt : k < len
    · obtain ⟨b, o, rfl, hbD, hbw, hc⟩ : ∃ b o, ao = some ⟨b, o, none⟩ ∧ D b ∧ b < w.heap.size ∧ ∀ j, j < bs.length → w.cell? ⟨b, o + j, none⟩ = some (.int .u8 ((bs.getD j 0).toNat : Int)) := by
        rcases hV with h | h
        · have := HL.out; rw [h] at this; simp at this; omega
        · exact h
      obtain ⟨c, hcd⟩ : ∃ c, c = bs.getD k 0 := ⟨_, rfl⟩
      have hcx : wr.cell? ⟨b, o + k, none⟩ = some (.int .u8 (c.toNat : Int)) := by
        rw [hcd]; exact (World.cell?_of_block (w := w) (hst.block b hbw (hD b hbD))).trans (hc k (by rw [← HL.out]; exact hlt))
      have hbw' : b < wr.heap.size := Nat.lt_of_lt_of_le hbw hst.size
      have hsn : bs.take (k + 1) = bs.take k ++ [c] := by
        rw [List.take_succ_eq_append_getElem (by rw [← HL.out]; exact hlt), hcd]
        simp [show k < bs.length by rw [← HL.out]; exact hlt]
      have HC := Lib.hid hsn
      clear hcd hsn hc hbD hbw hV
      generalize hys : s.xs ++ bs.take k = ys at *
      have HY := Lib.hid hys
      clear hys
      simp only at hb hrow hr0 hr1 h1 hlen hc1
      go_wp2
      go_region_law (refine step_append_row rfl (.tmp 14) (.tmp 19) 22 rfl 5 i0 (.int .u8 0) 1 1 Tryd.underlying22 hi hz0 hz1 hz2 rfl (by decide) _ _ _ (by simp [Act.eval]) (hrow.alloc _).drew (some ⟨wr.heap.size, 0, none⟩) 1 1 [byteV c] (by simp [Act.eval]) (by intro h; cases h) rfl (cell_new_byte _ _ _) (byteV_one [_]) (by unfold maxLen; omega) (by omega) ?_; intro v' w1 T' hr' hs'; obtain ⟨ao'', cap'', rfl, -⟩ := hr'.form; have hb1 := ((((Step.refl T wr).alloc _).drew).trans hs').block p (lt_of_block hb) hT |>.trans hb; have c1 := cell_of_block (i := 1) hb1 rfl; have f1 := frozen_of_block (i := 1) hb1)
      all_goals
        have r := Wr.push (s := { s with xs := ys }) hb hT hS hr0 hr1 (((Step.refl T wr).alloc _).drew) hs' hr'
        clear hb1 c1 f1
        go_wp2
        go_roundw
        case rel =>
          obtain ⟨S'', r1, r2⟩ := r
          exact ⟨k + 1, by omega, by go_num, S'', by rw [HC.out, ← List.append_assoc, HY.out]; exact r1, hst.trans r2⟩
        case measure => simp [intOf]; omega
    · have hkm : bs.take k = bs := List.take_of_length_le (by rw [← HL.out]; omega)
      have HK := Lib.hid hkm
      clear hkm
      have hkl : (k : Int) = len := by omega
      have HKL := Lib.hid hkl
      clear hkl
      go_wp2
      go_end0
      exact ⟨rfl, S', by rw [← HK.out]; exact ⟨_, T, hb, hrow, hT, hS, hr0, hr1⟩, hst⟩

end Cod
end Go.Proofs.YtllmogicmimjlaaDoor

end
section
namespace Go.Proofs.YtllmogicmimjlaaDoor
open Go.RowKit Go.Own
namespace Cod

set_option maxHeartbeats 400000 in
theorem fits_yes (S : Nat → Prop) (p : Nat) (s : WS) (size : Int) (w : World) (hW : Wr w S p s) (hxs : s.xs.length ≤ 200000000) (_h0 : 0 ≤ size) (hs : size ≤ s.room - s.xs.length) :
    Calls Tryd.prog 41 #[.pointer (some ⟨p, 0, none⟩), .int .i64 size] w fun e w' => e = .returned (.bool true) ∧ WrTo S p s w w' := by
  have hW0 := Lib.hid hW
  obtain ⟨v, T, hb, hrow, hT, hS, hr0, hr1⟩ := hW
  obtain ⟨ao, cap, rfl, hc1, hc2, -⟩ := hrow.form
  have h0 := cell_of_block (i := 0) hb rfl
  have h1 := cell_of_block (i := 1) hb rfl
  go_enter Tryd.func41, Tryd.ntmps41
  go_wp2
  go_quiet (fail)
  go_wp2
  go_ret
  exact ⟨rfl, hW0.out.drewN _⟩

set_option maxHeartbeats 400000 in
theorem fits_no (S : Nat → Prop) (p : Nat) (s : WS) (size : Int) (w : World) (hW : Wr w S p s) (hxs : s.xs.length ≤ 200000000) (_h0 : 0 ≤ size) (hs : s.room - s.xs.length < size) :
    Calls Tryd.prog 41 #[.pointer (some ⟨p, 0, none⟩), .int .i64 size] w fun e w' => e = .returned (.bool false) ∧ WrTo S p { s with err := 4 } w w' := by
  have hW0 := Lib.hid hW
  obtain ⟨v, T, hb, hrow, hT, hS, hr0, hr1⟩ := hW
  obtain ⟨ao, cap, rfl, hc1, hc2, -⟩ := hrow.form
  have h0 := cell_of_block (i := 0) hb rfl
  have h1 := cell_of_block (i := 1) hb rfl
  have h2 := cell_of_block (i := 2) hb rfl
  have f2 := frozen_of_block (i := 2) hb
  go_enter Tryd.func41, Tryd.ntmps41
  go_wp2
  go_quiet (fail)
  go_wp2
  go_ret
  exact ⟨rfl, hW0.out.fault _ 4⟩

/-- what a copy of bytes leaves: new memory with the same bytes, or nil -/
def CloneDone (bs : List UInt8) (w : World) (e : Ending) (w' : World) : Prop :=
  ∃ ao cap T, e = .returned (.slice ao bs.length cap) ∧ Row w' 5 1 T (.slice ao bs.length cap) bs.length (bs.map byteV) ∧ Step (fun _ => False) T w w'

theorem view_cells {w : World} {D : Nat → Prop} {ao : Option Addr} {bs : List UInt8} (h : View w D ao bs) : ∀ a, ao = some a → ∀ j u, (bs.map byteV)[j]? = some u → w.cell? (a.add j) = some u := by
  intro a ha j u hu
  have hj := (List.getElem?_eq_some_iff.1 hu).1
  rw [List.length_map] at hj
  rcases h with rfl | ⟨b, o, hab, _, _, hc⟩
  · simp at hj
  · rw [ha] at hab
    cases hab
    have e : (⟨b, o, none⟩ : Addr).add j = ⟨b, o + j, none⟩ := by unfold Addr.add; split <;> simp_all
    rw [e, hc j hj]
    rw [← hu]
    simp [byteV, hj]

set_option maxHeartbeats 400000 in
theorem clone_any (D : Nat → Prop) (ao : Option Addr) (bs : List UInt8) (cap : Nat) (w : World) (hV : View w D ao bs) (hbs : bs.length ≤ 1000000000) :
    Calls Tryd.prog 33 #[.slice ao bs.length cap] w (CloneDone bs w) := by
  obtain ⟨i0, hi, hz0, hz1, hz2⟩ := info_parts Tryd.infoU8
  cases ao with
  | none =>
    have hb : bs = [] := by
      rcases hV with h | ⟨b, o, h, _⟩
      · exact h
      · cases h
    subst hb
    have heq := fun wx => Lib.run_eql_slice_nil (P := Tryd.prog) wx 22 5 none 0 cap 0 0 Tryd.underlying22
    show Calls Tryd.prog 33 #[.slice none 0 cap] w _
    go_enter Tryd.func33, Tryd.ntmps33
    go_wp2
    go_ret
    exact ⟨none, 0, _, rfl, Row.nil _ _ _, Step.refl _ _⟩
  | some a =>
    have hc := view_cells hV
    have HC := Lib.hid hc
    clear hc hV
    obtain ⟨n, hn⟩ : ∃ n, n = bs.length := ⟨_, rfl⟩
    rw [← hn] at hbs ⊢
    have heq := fun wx => Lib.run_eql_slice_nil (P := Tryd.prog) wx 22 5 (some a) n cap 0 0 Tryd.underlying22
    have HN := Lib.hid hn
    clear hn
    go_enter Tryd.func33, Tryd.ntmps33
    go_wp2_with (at_builtin; go_loud (refine wpList_append_row rfl (.tmp 5) (.tmp 6) 22 rfl 5 i0 (.int .u8 0) 1 1 Tryd.underlying22 hi hz0 hz1 hz2 rfl (by decide) (.slice (some ⟨w.heap.size, 0, none⟩) 0 0) 0 [] rfl (Row.made w #[] 5 1 0 (Nat.zero_le _) rfl) (some a) n cap (bs.map byteV) rfl (by intro h; cases h) ?hl ?hnews (byteV_one _) ?b1 ?b2 ?_))
    case hl => rw [List.length_map, Nat.mul_one]; exact HN.out.symm
    case hnews =>
      intro a' ha j u hu
      have := HC.out a' ha j u hu
      exact cell_alloc this _
    case b1 => unfold maxLen; omega
    case b2 => omega
    intro v' w' T' hr' hs'
    obtain ⟨ao', cap', rfl, -⟩ := hr'.form
    go_wp2
    go_ret
    simp only at hr' ⊢
    have e := HN.out
    subst e
    exact ⟨ao', cap', T', rfl, hr', (((Step.refl (fun _ => False) w).alloc _).to (fun k hk => Or.inr (Nat.le_of_eq hk.symm))).trans hs'⟩

end Cod
end Go.Proofs.YtllmogicmimjlaaDoor

end
section
namespace Go.Proofs.YtllmogicmimjlaaDoor
open Go.RowKit Go.Own
namespace Cod

def NewWDone (room : Int) (w : World) (e : Ending) (w' : World) : Prop :=
  ∃ p S, e = .returned (.pointer (some ⟨p, 0, none⟩)) ∧ Wr w' S p ⟨max room 0, [], 0⟩ ∧ Step (fun _ => False) S w w'

theorem newWriter_any (room : Int) (w : World) (h1 : room ≤ 9223372036854775807) :
    Calls Tryd.prog 19 #[.int .i64 room] w (NewWDone room w) := by
  have key : ∀ r : Int, max room 0 = r → 0 ≤ r → r ≤ 9223372036854775807 → NewWDone room w (.returned (.pointer (some ⟨w.heap.size, 0, none⟩))) (w.alloc (.cells #[.int .i64 r, .slice none 0 0, .int .i64 0] 85)) := by
    intro r hr h0 hm
    refine ⟨_, fun k => k = w.heap.size, rfl, ?_, ((Step.refl (fun _ => False) w).alloc _).to (fun k hk => Or.inr (Nat.le_of_eq hk.symm))⟩
    rw [hr]
    exact ⟨.slice none 0 0, fun _ => False, heap_alloc_new w _, Row.nil _ _ _, fun h => h, fun k => by simp, h0, hm⟩
  have K := Lib.hid key
  clear key
  go_enter Tryd.func19, Tryd.ntmps19
  go_wp2
  all_goals go_ret
  all_goals first
    | exact K.out 0 (by omega) (by omega) (by omega)
    | exact K.out room (by omega) (by omega) h1
    | (refine K.out _ ?_ ?_ ?_ <;> first | omega | (split <;> omega))

set_option maxHeartbeats 400000 in
theorem num_any (S : Nat → Prop) (p : Nat) (s : WS) (n : Nat) (many : Int) (w : World) (hW : Wr w S p s) (hxs : s.xs.length ≤ 100000000) :
    Calls Tryd.prog 20 #[.pointer (some ⟨p, 0, none⟩), .int .u64 n, .int .i64 many] w (WDone S p (s.num n many) w) := by
  have hW0 := Lib.hid hW
  obtain ⟨v, T, hb, hrow, hT, hS, hr0, hr1⟩ := hW
  have h2 := cell_of_block (i := 2) hb rfl
  have f2 := frozen_of_block (i := 2) hb
  obtain ⟨room, xs, err⟩ := s
  simp only at h2 hr0 hr1 hxs
  clear hb hrow hT hS
  by_cases he : err = 0
  · subst he
    by_cases h0 : many < 0
    · have hfin : Hid (WS.num ⟨room, xs, 0⟩ n many = ⟨room, xs, 1⟩) := by simp [Hid, WS.num, h0]
      go_enter Tryd.func20, Tryd.ntmps20
      go_wp2
      go_end0
      rw [hfin.out]
      exact ⟨rfl, hW0.out.fault 0 1⟩
    · by_cases h8 : 8 < many
      · have hfin : Hid (WS.num ⟨room, xs, 0⟩ n many = ⟨room, xs, 1⟩) := by simp [Hid, WS.num, h8]
        go_enter Tryd.func20, Tryd.ntmps20
        go_wp2
        go_end0
        rw [hfin.out]
        exact ⟨rfl, hW0.out.fault 0 1⟩
      · obtain ⟨k, rfl⟩ := Int.eq_ofNat_of_zero_le (show 0 ≤ many by omega)
        by_cases hf : (k : Int) ≤ room - xs.length
        · have hfin : Hid (WS.num ⟨room, xs, 0⟩ n k = ⟨room, xs ++ le n k, 0⟩) := by
            simp only [Hid, WS.num, WS.lay]
            rw [if_neg (by simp), if_neg (by omega), if_neg (by simp), if_neg (by rw [Int.toNat_natCast, le_len]; omega), Int.toNat_natCast]
          go_enter Tryd.func20, Tryd.ntmps20
          go_wp2_with (fail)
          refine (fits_yes S p ⟨room, xs, 0⟩ k w hW0.out (by simp; omega) (by omega) hf).mono ?_
          rintro e w1 ⟨rfl, S1, hW1, hs1⟩
          have HW1 := Lib.hid hW1
          clear hW1
          go_wp2_with (fail)
          refine (putNum_any S1 p ⟨room, xs, 0⟩ n k w1 HW1.out (by omega) hxs).mono ?_
          rintro e w2 ⟨rfl, S2, hW2, hs2⟩
          have HW2 := Lib.hid hW2
          clear hW2
          go_wp2_with (fail)
          go_end0
          rw [hfin.out]
          exact ⟨rfl, S2, HW2.out, hs1.trans hs2⟩
        · have hfin : Hid (WS.num ⟨room, xs, 0⟩ n k = ⟨room, xs, 4⟩) := by
            simp only [Hid, WS.num, WS.lay]
            rw [if_neg (by simp), if_neg (by omega), if_neg (by simp), if_pos (by rw [Int.toNat_natCast, le_len]; omega)]
          go_enter Tryd.func20, Tryd.ntmps20
          go_wp2_with (fail)
          refine (fits_no S p ⟨room, xs, 0⟩ k w hW0.out (by simp; omega) (by omega) (by show room - xs.length < _; omega)).mono ?_
          rintro e w1 ⟨rfl, S1, hW1, hs1⟩
          have HW1 := Lib.hid hW1
          clear hW1
          go_wp2_with (fail)
          go_end0
          rw [hfin.out]
          exact ⟨rfl, S1, HW1.out, hs1⟩
  · have hfin : Hid (WS.num ⟨room, xs, err⟩ n many = ⟨room, xs, err⟩) := by simp [Hid, WS.num, he]
    have he' : (err == 0) = false := by simp [he]
    go_enter Tryd.func20, Tryd.ntmps20
    go_wp2
    go_end0
    rw [hfin.out]
    exact ⟨rfl, hW0.out.drewN 0⟩

set_option maxHeartbeats 400000 in
theorem raw_any (S D : Nat → Prop) (p : Nat) (s : WS) (ao : Option Addr) (bs : List UInt8) (cap : Nat) (w : World) (hW : Wr w S p s) (hV : View w D ao bs) (hD : Dis D S) (hbs : bs.length ≤ 100000000) (hxs : s.xs.length ≤ 100000000) :
    Calls Tryd.prog 22 #[.pointer (some ⟨p, 0, none⟩), .slice ao bs.length cap] w (WDone S p (s.lay bs) w) := by
  have hW0 := Lib.hid hW
  have hV0 := Lib.hid hV
  obtain ⟨v, T, hb, hrow, hT, hS, hr0, hr1⟩ := hW
  have h2 := cell_of_block (i := 2) hb rfl
  obtain ⟨room, xs, err⟩ := s
  simp only at h2 hr0 hr1 hxs
  clear hb hrow hT hV
  by_cases he : err = 0
  · subst he
    by_cases hf : (bs.length : Int) ≤ room - xs.length
    · have hfin : Hid (WS.lay ⟨room, xs, 0⟩ bs = ⟨room, xs ++ bs, 0⟩) := by
        simp only [Hid, WS.lay]
        rw [if_neg (by simp), if_neg (by omega)]
      go_enter Tryd.func22, Tryd.ntmps22
      go_wp2_with (fail)
      refine (fits_yes S p ⟨room, xs, 0⟩ bs.length w hW0.out (by simp; omega) (by omega) hf).mono ?_
      rintro e w1 ⟨rfl, S1, hW1, hs1⟩
      have HW1 := Lib.hid hW1
      clear hW1
      go_wp2_with (fail)
      refine (putBytes_any S1 _ p ⟨room, xs, 0⟩ ao bs cap w1 HW1.out (hV0.out.live.step hs1 (fun k hk => hD k hk.1)) (hD.step hs1) hbs hxs).mono ?_
      rintro e w2 ⟨rfl, S2, hW2, hs2⟩
      have HW2 := Lib.hid hW2
      clear hW2
      go_wp2_with (fail)
      go_end0
      rw [hfin.out]
      exact ⟨rfl, S2, HW2.out, hs1.trans hs2⟩
    · have hfin : Hid (WS.lay ⟨room, xs, 0⟩ bs = ⟨room, xs, 4⟩) := by
        simp only [Hid, WS.lay]
        rw [if_neg (by simp), if_pos (by omega)]
      go_enter Tryd.func22, Tryd.ntmps22
      go_wp2_with (fail)
      refine (fits_no S p ⟨room, xs, 0⟩ bs.length w hW0.out (by simp; omega) (by omega) (by show room - xs.length < _; omega)).mono ?_
      rintro e w1 ⟨rfl, S1, hW1, hs1⟩
      have HW1 := Lib.hid hW1
      clear hW1
      go_wp2_with (fail)
      go_end0
      rw [hfin.out]
      exact ⟨rfl, S1, HW1.out, hs1⟩
  · have hfin : Hid (WS.lay ⟨room, xs, err⟩ bs = ⟨room, xs, err⟩) := by simp [Hid, WS.lay, he]
    have he' : (err == 0) = false := by simp [he]
    go_enter Tryd.func22, Tryd.ntmps22
    go_wp2
    go_end0
    rw [hfin.out]
    exact ⟨rfl, hW0.out.drewN 0⟩

theorem WDone.seq {S S1 : Nat → Prop} {p : Nat} {s1 s2 : WS} {w w1 w2 : World} (h : Step S S1 w w1) (g : WrTo S1 p s2 w1 w2) : WrTo S p s2 w w2 := by
  obtain ⟨S2, h2, h3⟩ := g
  exact ⟨S2, h2, h.trans h3⟩

set_option maxHeartbeats 400000 in
theorem blob_any (S D : Nat → Prop) (p : Nat) (s : WS) (ao : Option Addr) (bs : List UInt8) (cap : Nat) (w : World) (hW : Wr w S p s) (hV : View w D ao bs) (hD : Dis D S) (hbs : bs.length ≤ 90000000) (hxs : s.xs.length ≤ 90000000) :
    Calls Tryd.prog 23 #[.pointer (some ⟨p, 0, none⟩), .slice ao bs.length cap] w (WDone S p (s.blob bs) w) := by
  have hW0 := Lib.hid hW
  have hV0 := Lib.hid hV
  obtain ⟨v, T, hb, hrow, hT, hS, hr0, hr1⟩ := hW
  have h2 := cell_of_block (i := 2) hb rfl
  have f2 := frozen_of_block (i := 2) hb
  obtain ⟨room, xs, err⟩ := s
  simp only at h2 hr0 hr1 hxs
  clear hb hrow hT hV
  by_cases he : err = 0
  · subst he
    by_cases hlong : 65535 < bs.length
    · have hfin : Hid (WS.blob ⟨room, xs, 0⟩ bs = ⟨room, xs, 4⟩) := by
        simp only [Hid, WS.blob]
        rw [if_neg (by simp), if_pos hlong]
      go_enter Tryd.func23, Tryd.ntmps23
      go_wp2
      go_end0
      rw [hfin.out]
      exact ⟨rfl, hW0.out.fault 0 4⟩
    · by_cases hf : (2 : Int) + bs.length ≤ room - xs.length
      · have hfin : Hid (WS.blob ⟨room, xs, 0⟩ bs = ⟨room, (xs ++ le bs.length 2) ++ bs, 0⟩) := by
          simp only [Hid, WS.blob, WS.lay]
          rw [if_neg (by simp), if_neg hlong, if_neg (by simp), if_neg (by rw [List.length_append, le_len]; omega), List.append_assoc]
        go_enter Tryd.func23, Tryd.ntmps23
        go_wp2_with (fail)
        refine (fits_yes S p ⟨room, xs, 0⟩ (2 + bs.length) w hW0.out (by simp; omega) (by omega) hf).mono ?_
        rintro e w1 ⟨rfl, S1, hW1, hs1⟩
        have HW1 := Lib.hid hW1
        clear hW1
        go_wp2_with (fail)
        refine (putNum_any S1 p ⟨room, xs, 0⟩ bs.length 2 w1 HW1.out (by omega) (by simp; omega)).mono ?_
        rintro e w2 ⟨rfl, S2, hW2, hs2⟩
        have HW2 := Lib.hid hW2
        clear hW2
        go_wp2_with (fail)
        refine (putBytes_any S2 _ p ⟨room, xs ++ le bs.length 2, 0⟩ ao bs cap w2 HW2.out (hV0.out.live.step (hs1.trans hs2) (fun k hk => hD k hk.1)) (hD.step (hs1.trans hs2)) (by omega) (by simp [le_len]; omega)).mono ?_
        rintro e w3 ⟨rfl, S3, hW3, hs3⟩
        have HW3 := Lib.hid hW3
        clear hW3
        go_wp2_with (fail)
        go_end0
        rw [hfin.out]
        exact ⟨rfl, S3, HW3.out, (hs1.trans hs2).trans hs3⟩
      · have hfin : Hid (WS.blob ⟨room, xs, 0⟩ bs = ⟨room, xs, 4⟩) := by
          simp only [Hid, WS.blob, WS.lay]
          rw [if_neg (by simp), if_neg hlong, if_neg (by simp), if_pos (by rw [List.length_append, le_len]; omega)]
        go_enter Tryd.func23, Tryd.ntmps23
        go_wp2_with (fail)
        refine (fits_no S p ⟨room, xs, 0⟩ (2 + bs.length) w hW0.out (by simp; omega) (by omega) (by show room - xs.length < _; omega)).mono ?_
        rintro e w1 ⟨rfl, S1, hW1, hs1⟩
        have HW1 := Lib.hid hW1
        clear hW1
        go_wp2_with (fail)
        go_end0
        rw [hfin.out]
        exact ⟨rfl, S1, HW1.out, hs1⟩
  · have hfin : Hid (WS.blob ⟨room, xs, err⟩ bs = ⟨room, xs, err⟩) := by simp [Hid, WS.blob, he]
    have he' : (err == 0) = false := by simp [he]
    go_enter Tryd.func23, Tryd.ntmps23
    go_wp2
    go_end0
    rw [hfin.out]
    exact ⟨rfl, hW0.out.drewN 0⟩

/-- what Out leaves: new memory with what was written; the writer as it was -/
def OutDone (S : Nat → Prop) (p : Nat) (s : WS) (w : World) (e : Ending) (w' : World) : Prop :=
  ∃ ao cap T, e = .returned (.tuple #[.slice ao s.xs.length cap, .int .i64 s.err]) ∧ Row w' 5 1 T (.slice ao s.xs.length cap) s.xs.length (s.xs.map byteV) ∧ Wr w' S p s ∧ Step (fun _ => False) T w w'

set_option maxHeartbeats 400000 in
theorem out_any (S : Nat → Prop) (p : Nat) (s : WS) (w : World) (hW : Wr w S p s) (hxs : s.xs.length ≤ 1000000000) :
    Calls Tryd.prog 24 #[.pointer (some ⟨p, 0, none⟩)] w (OutDone S p s w) := by
  have hW0 := Lib.hid hW
  obtain ⟨v, T, hb, hrow, hT, hS, hr0, hr1⟩ := hW
  obtain ⟨ao, cap, rfl, hc1, hc2, -⟩ := hrow.form
  have h1 := cell_of_block (i := 1) hb rfl
  have h2 := cell_of_block (i := 2) hb rfl
  have hp := lt_of_block hb
  have HB := Lib.hid hb
  have HR := Lib.hid hrow
  clear hb hrow hS
  go_enter Tryd.func24, Tryd.ntmps24
  go_wp2
  go_region_law (go_simp; go_at_call 33; refine (clone_any T ao s.xs cap w.drew HR.out.drew.view hxs).mono ?_; rintro e w1 ⟨ao1, cap1, T1, rfl, hr1, hs1⟩; have h2' : w1.cell? ⟨p, 2, none⟩ = some (.int .i64 s.err) := (World.cell?_of_block (w := w) (hs1.block p hp (fun h => h))).trans h2)
  all_goals
    have hg : Step (fun _ => False) T1 w w1 := ((Step.refl (fun _ => False) w).drew).trans hs1
    have HG := Lib.hid hg
    clear hg
    go_wp2
    go_ret2
    exact ⟨ao1, cap1, T1, rfl, hr1, hW0.out.keep HG.out (fun _ _ h => h), HG.out⟩

end Cod
end Go.Proofs.YtllmogicmimjlaaDoor

end
section
namespace Go.Proofs.YtllmogicmimjlaaDoor
open Go.RowKit Go.Own
namespace Cod

/-- a reader as plain data: the bytes that are left, its first error -/
structure RS where
  l : List UInt8
  err : Int

/-- what a reader is in memory -/
def Rd (w : World) (S : Nat → Prop) (p : Nat) (r : RS) : Prop :=
  ∃ ao cap D, w.heap[p]? = some (.cells #[.slice ao r.l.length cap, .int .i64 r.err] 89 (0, 0)) ∧ View w D ao r.l ∧ ¬ D p ∧ (∀ k, S k ↔ (k = p ∨ D k)) ∧ (∀ k, D k → k < w.heap.size) ∧
    r.l.length ≤ cap ∧ cap ≤ maxLen ∧ (ao = none → cap = 0) ∧ ∀ a, ao = some a → a.spot = none

theorem Rd.keep {w w' : World} {S T U : Nat → Prop} {p : Nat} {r : RS} (h : Rd w S p r) (g : Step T U w w') (hd : Dis S T) : Rd w' S p r := by
  obtain ⟨ao, cap, D, hb, hV, hD, hS, hl, rest⟩ := h
  exact ⟨ao, cap, D, (g.block p (lt_of_block hb) (hd p ((hS p).2 (.inl rfl)))).trans hb, hV.step g (fun k hk => hd k ((hS k).2 (.inr hk))), hD, hS, fun k hk => Nat.lt_of_lt_of_le (hl k hk) g.size, rest⟩

theorem Rd.lt {w : World} {S : Nat → Prop} {p : Nat} {r : RS} (h : Rd w S p r) : ∀ k, S k → k < w.heap.size := by
  obtain ⟨ao, cap, D, hb, hV, hD, hS, hl, rest⟩ := h
  intro k hk
  rcases (hS k).1 hk with rfl | h
  · exact lt_of_block hb
  · exact hl k h

/-- the reader is so, and only its blocks have turned -/
def RdTo (S : Nat → Prop) (p : Nat) (r : RS) (w w' : World) : Prop := Rd w' S p r ∧ Step S S w w'

theorem Rd.fault {w : World} {S : Nat → Prop} {p : Nat} {r : RS} (h : Rd w S p r) (n : Nat) (x : Int) : RdTo S p ⟨r.l, x⟩ w ((w.drewN n).setCell ⟨p, 1, none⟩ (.int .i64 x)) := by
  obtain ⟨ao, cap, D, hb, hV, hD, hS, hl, rest⟩ := h
  have g : Step (fun k => k = p) (fun k => k = p) w ((w.drewN n).setCell ⟨p, 1, none⟩ (.int .i64 x)) := ((Step.refl (fun k => k = p) w).drewN n).setCell (a := ⟨p, 1, none⟩) (Or.inl rfl) _
  refine ⟨⟨ao, cap, D, ?_, hV.step g (fun k h e => hD (e ▸ h)), hD, hS, fun k hk => Nat.lt_of_lt_of_le (hl k hk) g.size, rest⟩, ((Step.refl S w).drewN n).setCell (a := ⟨p, 1, none⟩) (Or.inl ((hS p).2 (.inl rfl))) _⟩
  have e : (w.drewN n).heap[p]? = some (.cells #[.slice ao r.l.length cap, .int .i64 r.err] 89 (0, 0)) := hb
  rw [block_setCell e]
  rfl

/-- what is left is set -/
theorem Rd.left {w : World} {S D : Nat → Prop} {p : Nat} {v : Value} {l : List UInt8} {err : Int} {ao : Option Addr} {cap : Nat}
    (hb : w.heap[p]? = some (.cells #[v, .int .i64 err] 89 (0, 0))) (hD : ¬ D p) (hS : ∀ k, S k ↔ (k = p ∨ D k)) (hl : ∀ k, D k → k < w.heap.size)
    (hV : View w D ao l) (h1 : l.length ≤ cap) (h2 : cap ≤ maxLen) (h3 : ao = none → cap = 0) (h4 : ∀ a, ao = some a → a.spot = none) :
    RdTo S p ⟨l, err⟩ w (w.setCell ⟨p, 0, none⟩ (.slice ao l.length cap)) := by
  have g : Step (fun k => k = p) (fun k => k = p) w (w.setCell ⟨p, 0, none⟩ (.slice ao l.length cap)) := (Step.refl (fun k => k = p) w).setCell (a := ⟨p, 0, none⟩) (Or.inl rfl) _
  refine ⟨⟨ao, cap, D, ?_, hV.step g (fun k h e => hD (e ▸ h)), hD, hS, fun k hk => Nat.lt_of_lt_of_le (hl k hk) g.size, h1, h2, h3, h4⟩, (Step.refl S w).setCell (a := ⟨p, 0, none⟩) (Or.inl ((hS p).2 (.inl rfl))) _⟩
  rw [block_setCell hb]
  rfl

theorem View.take {w : World} {D : Nat → Prop} {ao : Option Addr} {l : List UInt8} (h : View w D ao l) (n : Nat) : View w D ao (l.take n) := by
  rcases h with rfl | ⟨b, o, e, hS, hb, hc⟩
  · exact .inl (by simp)
  · refine .inr ⟨b, o, e, hS, hb, fun j hj => ?_⟩
    rw [List.length_take] at hj
    rw [hc j (by omega)]
    simp [List.getD, show j < n by omega]

theorem View.drop {w : World} {D : Nat → Prop} {b o : Nat} {l : List UInt8} (h : View w D (some ⟨b, o, none⟩) l) (n : Nat) : View w D (some ⟨b, o + n, none⟩) (l.drop n) := by
  rcases h with rfl | ⟨b', o', e, hS, hb, hc⟩
  · exact .inl (by simp)
  · cases e
    refine .inr ⟨b, o + n, rfl, hS, hb, fun j hj => ?_⟩
    rw [List.length_drop] at hj
    have := hc (n + j) (by omega)
    rw [Nat.add_assoc, this]
    simp [List.getD]

/-- what a take leaves: the first bytes as a part of the reader's own -/
def TakeDone (S : Nat → Prop) (p : Nat) (r : RS) (n : Nat) (w : World) (e : Ending) (w' : World) : Prop :=
  ∃ ao cap D, e = .returned (.slice ao n cap) ∧ View w' D ao (r.l.take n) ∧ (∀ k, D k → S k) ∧ RdTo S p ⟨r.l.drop n, r.err⟩ w w'

set_option maxHeartbeats 400000 in
theorem take_any (S : Nat → Prop) (p : Nat) (r : RS) (n : Nat) (w : World) (hR : Rd w S p r) (hn : n ≤ r.l.length) :
    Calls Tryd.prog 46 #[.pointer (some ⟨p, 0, none⟩), .int .i64 n] w (TakeDone S p r n w) := by
  obtain ⟨ao, cap, D, hb, hV, hD, hS, hlt, hlc, hm, hnone, hspot⟩ := hR
  obtain ⟨l, err⟩ := r
  simp only at hb hV hn hlc
  have h0 := cell_of_block (i := 0) hb rfl
  have f0 := frozen_of_block (i := 0) hb
  unfold maxLen at hm
  cases ao with
  | none =>
    obtain rfl := hnone rfl
    obtain rfl : l = [] := List.eq_nil_of_length_eq_zero (by omega)
    obtain rfl : n = 0 := by simpa using hn
    have key : TakeDone S p ⟨[], err⟩ 0 w (.returned (.slice none 0 0)) (w.setCell ⟨p, 0, none⟩ (.slice none 0 0)) :=
      ⟨none, 0, D, rfl, .inl (by simp), fun k hk => (hS k).2 (.inr hk), Rd.left (ao := none) (l := []) hb hD hS hlt hV (by simp) (by simp [maxLen]) (fun _ => rfl) (fun a h => by cases h)⟩
    have K := Lib.hid key
    clear key hb hV hD hS hlt
    simp only [List.length_nil] at h0
    go_enter Tryd.func46, Tryd.ntmps46
    go_wp2
    go_ret
    exact K.out
  | some a =>
    obtain ⟨b, o, sp⟩ := a
    obtain rfl : sp = none := hspot _ rfl
    obtain ⟨len, hlen⟩ : ∃ len, len = l.length := ⟨_, rfl⟩
    have key1 : cap = n → TakeDone S p ⟨l, err⟩ n w (.returned (.slice (some ⟨b, o, none⟩) n n)) (w.setCell ⟨p, 0, none⟩ (.slice (some ⟨b, o, none⟩) (len - n) 0)) := by
      intro hc
      have e : l.drop n = [] := List.drop_eq_nil_of_le (by omega)
      have e2 : len - n = 0 := by omega
      refine ⟨some ⟨b, o, none⟩, n, D, rfl, (View.take hV n).step (T := fun k => k = p) (U := fun k => k = p) ((Step.refl (fun k => k = p) w).setCell (a := ⟨p, 0, none⟩) (Or.inl rfl) _) (fun k h e => hD (e ▸ h)), fun k hk => (hS k).2 (.inr hk), ?_⟩
      rw [e, e2]
      exact Rd.left (ao := some ⟨b, o, none⟩) (l := []) hb hD hS hlt (.inl rfl) (by simp) (by simp [maxLen]) (fun h => by cases h) (fun a h => by cases h; rfl)
    have key2 : TakeDone S p ⟨l, err⟩ n w (.returned (.slice (some ⟨b, o, none⟩) n cap)) (w.setCell ⟨p, 0, none⟩ (.slice (some ⟨b, o + n, none⟩) (len - n) (cap - n))) := by
      refine ⟨some ⟨b, o, none⟩, cap, D, rfl, (View.take hV n).step (T := fun k => k = p) (U := fun k => k = p) ((Step.refl (fun k => k = p) w).setCell (a := ⟨p, 0, none⟩) (Or.inl rfl) _) (fun k h e => hD (e ▸ h)), fun k hk => (hS k).2 (.inr hk), ?_⟩
      have e : len - n = (l.drop n).length := by rw [List.length_drop]; omega
      rw [e]
      exact Rd.left (ao := some ⟨b, o + n, none⟩) (l := l.drop n) hb hD hS hlt (View.drop hV n) (by rw [List.length_drop]; omega) (by unfold maxLen; omega) (fun h => by cases h) (fun a h => by cases h; rfl)
    have K1 := Lib.hid key1
    have K2 := Lib.hid key2
    rw [← hlen] at h0 hn hlc
    clear key1 key2 hb hV hD hS hlt hlen hnone hspot
    go_enter Tryd.func46, Tryd.ntmps46
    go_wp2
    all_goals go_ret
    · exact K1.out (by omega)
    · exact K2.out

/-- bytes as a number, the least significant one first -/
def num : List UInt8 → Nat
  | [] => 0
  | c :: r => c.toNat + 256 * num r

theorem num_snoc (l : List UInt8) (c : UInt8) : num (l ++ [c]) = num l + 2 ^ (8 * l.length) * c.toNat := by
  induction l with
  | nil => simp [num]
  | cons d r ih =>
    have e : 2 ^ (8 * (r.length + 1)) = 256 * 2 ^ (8 * r.length) := by rw [Nat.mul_add, Nat.pow_add]; simp [Nat.mul_comm]
    rw [List.cons_append, num, ih, num, List.length_cons, e, Nat.mul_add, Nat.mul_assoc]
    omega

theorem or_shift (m k : Nat) (c : UInt8) (hk : k < 8) (hm : m < 2 ^ (8 * k)) :
    bits .or .u64 (m : Int) (IntKind.u64.wrap (IntKind.u64.wrap (c.toNat : Int) * 2 ^ (8 * k))) = ((m + 2 ^ (8 * k) * c.toNat : Nat) : Int) := by
  have hc := c.toNat_lt
  have hp : (2 : Nat) ^ (8 * k) ≤ 2 ^ 56 := Nat.pow_le_pow_right (by omega) (by omega)
  have hlt : 2 ^ (8 * k) * c.toNat < 2 ^ 64 := Nat.lt_of_le_of_lt (Nat.mul_le_mul hp (show c.toNat ≤ 255 by omega)) (by decide)
  have e1 : IntKind.u64.wrap (c.toNat : Int) = (c.toNat : Int) := IntWalk.u64_in _ (by omega)
  have e2 : (c.toNat : Int) * 2 ^ (8 * k) = ((2 ^ (8 * k) * c.toNat : Nat) : Int) := by simp [Int.mul_comm]
  have e3 : IntKind.u64.wrap ((2 ^ (8 * k) * c.toNat : Nat) : Int) = ((2 ^ (8 * k) * c.toNat : Nat) : Int) := IntWalk.u64_in _ (by omega)
  rw [e1, e2, e3, bits_or_u64_nat _ _ (by omega) (by omega), Nat.or_comm, ← Nat.two_pow_add_eq_or_of_lt hm]
  rw [Nat.add_comm]

theorem num_lt (l : List UInt8) : num l < 2 ^ (8 * l.length) := by
  induction l with
  | nil => simp [num]
  | cons d r ih =>
    have e : 2 ^ (8 * (r.length + 1)) = 256 * 2 ^ (8 * r.length) := by rw [Nat.mul_add, Nat.pow_add]; simp [Nat.mul_comm]
    have := d.toNat_lt
    simp only [num, List.length_cons, e]
    omega

set_option maxHeartbeats 400000 in
theorem number_any (D : Nat → Prop) (ao : Option Addr) (l : List UInt8) (cap : Nat) (w : World) (hV : View w D ao l) (hl : l.length ≤ 8) :
    Calls Tryd.prog 45 #[.slice ao l.length cap] w fun e w' => e = .returned (.int .u64 (num l)) ∧ w = w' := by
  obtain ⟨len, hlen⟩ : ∃ len, len = l.length := ⟨_, rfl⟩
  rw [← hlen]
  rw [← hlen] at hl
  have HL := Lib.hid hlen
  clear hlen
  go_enter Tryd.func45, Tryd.ntmps45
  go_wp2
  go_loop [3, 4, 7] (fun n _ i => ∃ k : Nat, k ≤ len ∧ i = .int .i64 k ∧ n = .int .u64 (num (l.take k))) (fun _ _ i => len - (intOf i).toNat)
  case atStart => exact ⟨0, Nat.zero_le _, rfl, rfl⟩
  case round =>
    obtain ⟨k, hk, rfl, rfl⟩ := hrel
    by_cases hlt : k < len
    · obtain ⟨b, o, rfl, hbD, hbw, hc⟩ : ∃ b o, ao = some ⟨b, o, none⟩ ∧ D b ∧ b < w.heap.size ∧ ∀ j, j < l.length → w.cell? ⟨b, o + j, none⟩ = some (.int .u8 ((l.getD j 0).toNat : Int)) := by
        rcases hV with h | h
        · have := HL.out; rw [h] at this; simp at this; omega
        · exact h
      obtain ⟨c, hcd⟩ : ∃ c, c = l.getD k 0 := ⟨_, rfl⟩
      have hcx : w.cell? ⟨b, o + k, none⟩ = some (.int .u8 (c.toNat : Int)) := by rw [hcd]; exact hc k (by rw [← HL.out]; exact hlt)
      have hsn : l.take (k + 1) = l.take k ++ [c] := by
        rw [List.take_succ_eq_append_getElem (by rw [← HL.out]; exact hlt), hcd]
        simp [show k < l.length by rw [← HL.out]; exact hlt]
      have HC := Lib.hid hsn
      have hk8 : IntKind.i64.wrap (8 * (k : Int)) = 8 * (k : Int) := IntWalk.i64_in _ (by omega)
      have hk0 : (0 : Int) ≤ 8 * (k : Int) := by omega
      clear hcd hsn hc hbD hbw hV
      obtain ⟨m, hm⟩ : ∃ m, m = num (l.take k) := ⟨_, rfl⟩
      rw [← hm]
      have HM := Lib.hid hm
      have hm2 : m < 2 ^ (8 * k) := by
        have := num_lt (l.take k)
        rw [List.length_take, Nat.min_eq_left (by rw [← HL.out]; omega), ← hm] at this
        exact this
      have hor := or_shift m k c (by omega) hm2
      clear hm hm2
      obtain ⟨q, hq⟩ : ∃ q : Nat, q = m + 2 ^ (8 * k) * c.toNat := ⟨_, rfl⟩
      rw [← hq] at hor
      have HQ := Lib.hid hq
      clear hq
      go_wp2
      go_round
      case rel =>
        refine ⟨k + 1, by omega, by go_num, ?_⟩
        rw [HC.out, num_snoc, ← HM.out, List.length_take, Nat.min_eq_left (by rw [← HL.out]; omega), ← HQ.out]
      case measure => simp [intOf]; omega
    · have hkl : l.take k = l := List.take_of_length_le (by rw [← HL.out]; omega)
      have HK := Lib.hid hkl
      clear hkl
      go_wp2
      go_ret
      exact ⟨by rw [HK.out]; rfl, rfl⟩

end Cod
end Go.Proofs.YtllmogicmimjlaaDoor

end
section
namespace Go.Proofs.YtllmogicmimjlaaDoor
open Go.RowKit Go.Own
namespace Cod

def RS.num (r : RS) (many : Int) : Nat × RS :=
  if r.err ≠ 0 then (0, r) else if many < 0 ∨ 8 < many then (0, ⟨r.l, 1⟩) else if (r.l.length : Int) < many then (0, ⟨r.l, 10⟩) else (Cod.num (r.l.take many.toNat), ⟨r.l.drop many.toNat, 0⟩)
def RS.raw (r : RS) (n : Int) : List UInt8 × RS :=
  if r.err ≠ 0 then ([], r) else if n < 0 then ([], ⟨r.l, 1⟩) else if (r.l.length : Int) < n then ([], ⟨r.l, 10⟩) else (r.l.take n.toNat, ⟨r.l.drop n.toNat, 0⟩)
def blobSz (l : List UInt8) (most : Int) : Nat × Int :=
  if l.length < 2 then (0, 10) else if max most 0 < (Cod.num (l.take 2) : Int) then (0, 4) else if l.length - 2 < Cod.num (l.take 2) then (0, 10) else (Cod.num (l.take 2), 0)
def RS.blob (r : RS) (most : Int) : List UInt8 × RS :=
  if r.err ≠ 0 then ([], r) else if (blobSz r.l most).2 ≠ 0 then ([], ⟨r.l, (blobSz r.l most).2⟩) else ((r.l.drop 2).take (blobSz r.l most).1, ⟨(r.l.drop 2).drop (blobSz r.l most).1, 0⟩)
def RS.fin (r : RS) : Int := if r.err = 0 ∧ r.l ≠ [] then 11 else r.err

def NewRDone (l : List UInt8) (w : World) (e : Ending) (w' : World) : Prop :=
  ∃ p S, e = .returned (.pointer (some ⟨p, 0, none⟩)) ∧ Rd w' S p ⟨l, 0⟩ ∧ Step (fun _ => False) S w w'

theorem newReader_any (D : Nat → Prop) (ao : Option Addr) (l : List UInt8) (cap : Nat) (w : World) (hV : View w D ao l) (hl : l.length ≤ 1000000000) :
    Calls Tryd.prog 27 #[.slice ao l.length cap] w (NewRDone l w) := by
  go_enter Tryd.func27, Tryd.ntmps27
  go_wp2_with (fail)
  refine (clone_any D ao l cap w hV hl).mono ?_
  rintro e w1 ⟨ao1, cap1, T, rfl, hr, hs⟩
  go_wp2
  go_ret
  obtain ⟨ao', cap', hv, h1, h2, h3, h4⟩ := hr.form
  simp only [Value.slice.injEq, true_and] at hv
  obtain ⟨rfl, rfl⟩ := hv
  have g : Step T (fun k => k = w1.heap.size ∨ T k) w1 (w1.alloc (.cells #[.slice ao1 l.length cap1, .int .i64 0] 89)) := ((Step.refl T w1).alloc _).to (fun k hk => hk.elim (fun e => .inr (Nat.le_of_eq e.symm)) .inl)
  refine ⟨w1.heap.size, fun k => k = w1.heap.size ∨ T k, rfl, ⟨ao1, cap1, T, heap_alloc_new w1 _, hr.view.step ((Step.refl (fun _ => False) w1).alloc _) (fun _ _ h => h), fun h => by have := hr.lt _ h; omega, fun k => Iff.rfl, fun k hk => by have := hr.lt k hk; simp; omega, h1, h2, fun h => (h3 h).2.1, fun a h => by obtain ⟨g, rfl, _⟩ := h4 a h; rfl⟩, hs.trans g⟩

theorem end_any (S : Nat → Prop) (p : Nat) (r : RS) (w : World) (hR : Rd w S p r) :
    Calls Tryd.prog 31 #[.pointer (some ⟨p, 0, none⟩)] w fun e w' => e = .returned (.int .i64 r.fin) ∧ w = w' := by
  obtain ⟨ao, cap, D, hb, hV, hD, hS, hlt, hlc, hm, hnone, hspot⟩ := hR
  obtain ⟨l, err⟩ := r
  have h0 := cell_of_block (i := 0) hb rfl
  have h1 := cell_of_block (i := 1) hb rfl
  clear hb hV hD hS hlt
  simp only at h0 h1
  obtain ⟨n, hn⟩ : ∃ n, n = l.length := ⟨_, rfl⟩
  rw [← hn] at h0
  by_cases he : err = 0
  · subst he
    by_cases hz : n = 0
    · have hfin : RS.fin ⟨l, 0⟩ = 0 := by
        have : l = [] := List.eq_nil_of_length_eq_zero (by omega)
        simp [RS.fin, this]
      rw [hfin]
      subst hz
      clear hn hfin
      go_enter Tryd.func31, Tryd.ntmps31
      go_wp2
      go_ret
      exact ⟨rfl, rfl⟩
    · have hfin : RS.fin ⟨l, 0⟩ = 11 := by
        have : l ≠ [] := by rintro rfl; simp at hn; omega
        simp [RS.fin, this]
      rw [hfin]
      have hz' : 0 < n := by omega
      clear hn hfin
      go_enter Tryd.func31, Tryd.ntmps31
      go_wp2
      go_ret
      exact ⟨rfl, rfl⟩
  · have hfin : RS.fin ⟨l, err⟩ = err := by simp [RS.fin, he]
    rw [hfin]
    have he' : (err == 0) = false := by simp [he]
    clear hn hfin
    go_enter Tryd.func31, Tryd.ntmps31
    go_wp2
    go_ret
    exact ⟨rfl, rfl⟩

def NumRDone (S : Nat → Prop) (p : Nat) (x : Nat × RS) (w : World) (e : Ending) (w' : World) : Prop := e = .returned (.int .u64 x.1) ∧ RdTo S p x.2 w w'

theorem Rd.same {w : World} {S : Nat → Prop} {p : Nat} {r : RS} (h : Rd w S p r) : RdTo S p r w w := ⟨h, Step.refl S w⟩

set_option maxHeartbeats 400000 in
theorem rnum_any (S : Nat → Prop) (p : Nat) (r : RS) (many : Int) (w : World) (hR : Rd w S p r) (hl : r.l.length ≤ 1000000000) :
    Calls Tryd.prog 28 #[.pointer (some ⟨p, 0, none⟩), .int .i64 many] w (NumRDone S p (r.num many) w) := by
  have hR0 := Lib.hid hR
  obtain ⟨ao, cap, D, hb, hV, hD, hS, hlt, hlc, hm, hnone, hspot⟩ := hR
  obtain ⟨l, err⟩ := r
  have h0 := cell_of_block (i := 0) hb rfl
  have h1 := cell_of_block (i := 1) hb rfl
  have f1 := frozen_of_block (i := 1) hb
  clear hb hV hD hS hlt hlc hm hnone hspot
  simp only at h0 h1 hl
  by_cases he : err = 0
  · subst he
    by_cases hbad : many < 0 ∨ 8 < many
    · have hfin : Hid (RS.num ⟨l, 0⟩ many = (0, ⟨l, 1⟩)) := by simp [Hid, RS.num, hbad]
      by_cases hneg : many < 0
      · go_enter Tryd.func28, Tryd.ntmps28
        go_wp2
        go_ret
        rw [hfin.out]
        exact ⟨rfl, hR0.out.fault 0 1⟩
      · have hbig : 8 < many := by omega
        go_enter Tryd.func28, Tryd.ntmps28
        go_wp2
        go_ret
        rw [hfin.out]
        exact ⟨rfl, hR0.out.fault 0 1⟩
    · obtain ⟨k, rfl⟩ := Int.eq_ofNat_of_zero_le (show 0 ≤ many by omega)
      have hk8 : k ≤ 8 := by omega
      by_cases hs : (l.length : Int) < k
      · have hfin : Hid (RS.num ⟨l, 0⟩ k = (0, ⟨l, 10⟩)) := by
          simp only [Hid, RS.num]
          rw [if_neg (by simp), if_neg hbad, if_pos hs]
        go_enter Tryd.func28, Tryd.ntmps28
        go_wp2
        go_ret
        rw [hfin.out]
        exact ⟨rfl, hR0.out.fault 0 10⟩
      · have hfin : Hid (RS.num ⟨l, 0⟩ k = (Cod.num (l.take k), ⟨l.drop k, 0⟩)) := by
          simp only [Hid, RS.num]
          rw [if_neg (by simp), if_neg hbad, if_neg hs, Int.toNat_natCast]
        go_enter Tryd.func28, Tryd.ntmps28
        go_wp2_with (fail)
        refine (take_any S p ⟨l, 0⟩ k w hR0.out (by simp; omega)).mono ?_
        rintro e w1 ⟨ao1, cap1, D1, rfl, hV1, hD1, hR1⟩
        have HV1 := Lib.hid hV1
        have HR1 := Lib.hid hR1
        clear hV1 hR1
        go_wp2_with (fail)
        have hlen : (l.take k).length = k := by rw [List.length_take]; omega
        have hnum := number_any D1 ao1 (l.take k) cap1 w1 HV1.out (by omega)
        rw [hlen] at hnum
        refine hnum.mono ?_
        rintro e w2 ⟨rfl, rfl⟩
        clear hnum hlen
        go_wp2
        go_ret
        rw [hfin.out]
        exact ⟨rfl, HR1.out⟩
  · have hfin : Hid (RS.num ⟨l, err⟩ many = (0, ⟨l, err⟩)) := by simp [Hid, RS.num, he]
    have he' : (err == 0) = false := by simp [he]
    go_enter Tryd.func28, Tryd.ntmps28
    go_wp2
    go_ret
    rw [hfin.out]
    exact ⟨rfl, hR0.out.same⟩

end Cod
end Go.Proofs.YtllmogicmimjlaaDoor

end
section
namespace Go.Proofs.YtllmogicmimjlaaDoor
open Go.RowKit Go.Own
namespace Cod

/-- what a call leaves that answers bytes of a reader: the reader is so, the bytes are new memory -/
def RawDone (S : Nat → Prop) (p : Nat) (x : List UInt8 × RS) (w : World) (e : Ending) (w' : World) : Prop :=
  ∃ ao cap T, e = .returned (.slice ao x.1.length cap) ∧ Row w' 5 1 T (.slice ao x.1.length cap) x.1.length (x.1.map byteV) ∧ Rd w' S p x.2 ∧ Step S S w w' ∧ ∀ k, T k → w.heap.size ≤ k

theorem RawDone.empty {S : Nat → Prop} {p : Nat} {r : RS} {w w' : World} (h : RdTo S p r w w') : RawDone S p ([], r) w (.returned (.slice none 0 0)) w' :=
  ⟨none, 0, fun _ => False, rfl, Row.nil _ _ _, h.1, h.2, fun _ h => h.elim⟩

theorem RawDone.mk' {S T : Nat → Prop} {p : Nat} {r : RS} {l : List UInt8} {n : Nat} {w w1 w2 : World} {ao : Option Addr} {cap : Nat} (hn : l.length = n) (h : RdTo S p r w w1) (hr : Row w2 5 1 T (.slice ao n cap) n (l.map byteV)) (hs : Step (fun _ => False) T w1 w2) :
    RawDone S p (l, r) w (.returned (.slice ao n cap)) w2 := by
  subst hn
  refine ⟨ao, cap, T, rfl, hr, h.1.keep hs (fun _ _ h => h), ?_, fun k hk => (hs.new k hk).elim (fun h => h.elim) (fun g => Nat.le_trans h.2.size g)⟩
  have g := h.2
  exact ⟨hs.os.trans g.os, hs.tape.trans g.tape, hs.output.trans g.output, Nat.le_trans g.size hs.size, fun k hk hS => (hs.block k (by have := g.size; omega) (fun h => h)).trans (g.block k hk hS), fun k hk => .inl hk⟩

set_option maxHeartbeats 400000 in
theorem rraw_any (S : Nat → Prop) (p : Nat) (r : RS) (n : Int) (w : World) (hR : Rd w S p r) (hl : r.l.length ≤ 1000000000) :
    Calls Tryd.prog 29 #[.pointer (some ⟨p, 0, none⟩), .int .i64 n] w (RawDone S p (r.raw n) w) := by
  have hR0 := Lib.hid hR
  obtain ⟨ao, cap, D, hb, hV, hD, hS, hlt, hlc, hm, hnone, hspot⟩ := hR
  obtain ⟨l, err⟩ := r
  have h0 := cell_of_block (i := 0) hb rfl
  have h1 := cell_of_block (i := 1) hb rfl
  have f1 := frozen_of_block (i := 1) hb
  clear hb hV hD hS hlt hlc hm hnone hspot
  simp only at h0 h1 hl
  by_cases he : err = 0
  · subst he
    by_cases hneg : n < 0
    · have hfin : Hid (RS.raw ⟨l, 0⟩ n = ([], ⟨l, 1⟩)) := by simp [Hid, RS.raw, hneg]
      go_enter Tryd.func29, Tryd.ntmps29
      go_wp2
      go_ret
      rw [hfin.out]
      exact RawDone.empty (hR0.out.fault 0 1)
    · obtain ⟨k, rfl⟩ := Int.eq_ofNat_of_zero_le (show 0 ≤ n by omega)
      by_cases hs : (l.length : Int) < k
      · have hfin : Hid (RS.raw ⟨l, 0⟩ k = ([], ⟨l, 10⟩)) := by
          simp only [Hid, RS.raw]
          rw [if_neg (by simp), if_neg hneg, if_pos hs]
        go_enter Tryd.func29, Tryd.ntmps29
        go_wp2
        go_ret
        rw [hfin.out]
        exact RawDone.empty (hR0.out.fault 0 10)
      · have hfin : Hid (RS.raw ⟨l, 0⟩ k = (l.take k, ⟨l.drop k, 0⟩)) := by
          simp only [Hid, RS.raw]
          rw [if_neg (by simp), if_neg hneg, if_neg hs, Int.toNat_natCast]
        go_enter Tryd.func29, Tryd.ntmps29
        go_wp2_with (fail)
        refine (take_any S p ⟨l, 0⟩ k w hR0.out (by simp; omega)).mono ?_
        rintro e w1 ⟨ao1, cap1, D1, rfl, hV1, hD1, hR1⟩
        have HV1 := Lib.hid hV1
        have HR1 := Lib.hid hR1
        clear hV1 hR1
        go_wp2_with (fail)
        have hlen : (l.take k).length = k := by rw [List.length_take]; omega
        have hcl := clone_any D1 ao1 (l.take k) cap1 w1 HV1.out (by omega)
        unfold CloneDone at hcl
        rw [hlen] at hcl
        have HL := Lib.hid hlen
        refine hcl.mono ?_
        rintro e w2 ⟨ao2, cap2, T2, rfl, hr2, hs2⟩
        have HR2 := Lib.hid hr2
        clear hcl hr2 hlen
        go_wp2
        go_ret
        rw [hfin.out]
        exact RawDone.mk' HL.out HR1.out HR2.out hs2
  · have hfin : Hid (RS.raw ⟨l, err⟩ n = ([], ⟨l, err⟩)) := by simp [Hid, RS.raw, he]
    have he' : (err == 0) = false := by simp [he]
    go_enter Tryd.func29, Tryd.ntmps29
    go_wp2
    go_ret
    rw [hfin.out]
    exact RawDone.empty hR0.out.same

set_option maxHeartbeats 400000 in
theorem blobSize_any (D : Nat → Prop) (ao : Option Addr) (l : List UInt8) (cap : Nat) (most : Int) (w : World) (hV : View w D ao l) (hl : l.length ≤ 1000000000) (hc : l.length ≤ cap) (hm : cap ≤ maxLen) (hmost : most ≤ 9223372036854775807) :
    Calls Tryd.prog 47 #[.slice ao l.length cap, .int .i64 most] w fun e w' => e = .returned (.tuple #[.int .i64 (blobSz l most).1, .int .i64 (blobSz l most).2]) ∧ w = w' := by
  unfold maxLen at hm
  by_cases h2 : l.length < 2
  · have hfin : Hid (blobSz l most = (0, 10)) := by simp [Hid, blobSz, h2]
    go_enter Tryd.func47, Tryd.ntmps47
    go_wp2
    go_ret2
    rw [hfin.out]
    exact ⟨rfl, rfl⟩
  · obtain ⟨b, o, rfl⟩ : ∃ b o, ao = some ⟨b, o, none⟩ := by
      rcases hV with rfl | ⟨b, o, h, _⟩
      · simp at h2
      · exact ⟨b, o, h⟩
    obtain ⟨m, hm0⟩ : ∃ m, m = num (l.take 2) := ⟨_, rfl⟩
    have hm1 : m < 65536 := by have := num_lt (l.take 2); rw [List.length_take, Nat.min_eq_left (by omega), ← hm0] at this; exact this
    have hlen : (l.take 2).length = 2 := by rw [List.length_take]; omega
    have hnum : ∀ wx cx, View wx D (some ⟨b, o, none⟩) l → Calls Tryd.prog 45 #[.slice (some ⟨b, o, none⟩) 2 cx] wx fun e w' => e = .returned (.int .u64 m) ∧ wx = w' := by
      intro wx cx hv
      have := number_any D (some ⟨b, o, none⟩) (l.take 2) cx wx (View.take hv 2) (by omega)
      rw [hlen, ← hm0] at this
      exact this
    have HN := Lib.hid hnum
    have HV := Lib.hid hV
    have HM := Lib.hid hm0
    clear hnum hV hm0 hlen
    by_cases h3 : max most 0 < (m : Int)
    · have hfin : Hid (blobSz l most = (0, 4)) := by
        simp only [Hid, blobSz]
        rw [if_neg h2, ← HM.out, if_pos h3]
      go_enter Tryd.func47, Tryd.ntmps47
      go_wp2_with (fail)
      refine (HN.out _ _ HV.out).mono ?_
      rintro e w1 ⟨rfl, rfl⟩
      go_wp2
      all_goals go_ret2
      all_goals rw [hfin.out]
      all_goals exact ⟨rfl, rfl⟩
    · by_cases h4 : l.length - 2 < m
      · have hfin : Hid (blobSz l most = (0, 10)) := by
          simp only [Hid, blobSz]
          rw [if_neg h2, ← HM.out, if_neg h3, if_pos h4]
        go_enter Tryd.func47, Tryd.ntmps47
        go_wp2_with (fail)
        refine (HN.out _ _ HV.out).mono ?_
        rintro e w1 ⟨rfl, rfl⟩
        go_wp2
        all_goals go_ret2
        all_goals rw [hfin.out]
        all_goals exact ⟨rfl, rfl⟩
      · have hfin : Hid (blobSz l most = (m, 0)) := by
          simp only [Hid, blobSz]
          rw [if_neg h2, ← HM.out, if_neg h3, if_neg h4]
        go_enter Tryd.func47, Tryd.ntmps47
        go_wp2_with (fail)
        refine (HN.out _ _ HV.out).mono ?_
        rintro e w1 ⟨rfl, rfl⟩
        go_wp2
        all_goals go_ret2
        all_goals rw [hfin.out]
        all_goals exact ⟨rfl, rfl⟩

set_option maxHeartbeats 800000 in
theorem rblob_any (S : Nat → Prop) (p : Nat) (r : RS) (most : Int) (w : World) (hR : Rd w S p r) (hl : r.l.length ≤ 1000000000) (hmost : most ≤ 9223372036854775807) :
    Calls Tryd.prog 30 #[.pointer (some ⟨p, 0, none⟩), .int .i64 most] w (RawDone S p (r.blob most) w) := by
  have hR0 := Lib.hid hR
  obtain ⟨ao, cap, D, hb, hV, hD, hS, hlt, hlc, hm, hnone, hspot⟩ := hR
  obtain ⟨l, err⟩ := r
  have h0 := cell_of_block (i := 0) hb rfl
  have h1 := cell_of_block (i := 1) hb rfl
  have f1 := frozen_of_block (i := 1) hb
  simp only at h0 h1 hl hlc hV
  have hsz := Lib.hid (blobSize_any D ao l cap most w hV hl hlc hm hmost)
  clear hb hV hD hS hlt hlc hm hnone hspot
  by_cases he : err = 0
  · subst he
    obtain ⟨sz, er, hbs⟩ : ∃ sz er, blobSz l most = (sz, er) := ⟨_, _, rfl⟩
    by_cases hz : er = 0
    · subst hz
      have hfin : Hid (RS.blob ⟨l, 0⟩ most = ((l.drop 2).take sz, ⟨(l.drop 2).drop sz, 0⟩)) := by
        simp only [Hid, RS.blob, hbs]
        rw [if_neg (by simp), if_neg (by simp)]
      have hb2 : 2 ≤ l.length ∧ sz ≤ (l.drop 2).length := by
        rw [List.length_drop]
        unfold blobSz at hbs
        split at hbs
        · simp at hbs
        · split at hbs
          · simp at hbs
          · split at hbs
            · simp at hbs
            · simp at hbs; omega
      have HB := Lib.hid hbs
      have HB2 := Lib.hid hb2
      clear hbs hb2
      go_enter Tryd.func30, Tryd.ntmps30
      go_wp2_with (fail)
      refine hsz.out.mono ?_
      rintro e w1 ⟨rfl, rfl⟩
      rw [HB.out]
      go_wp2_with (fail)
      refine (take_any S p ⟨l, 0⟩ 2 w hR0.out (by have := HB2.out.1; simpa using this)).mono ?_
      rintro e w1 ⟨ao1, cap1, D1, rfl, hV1, hD1, hR1⟩
      have HR1 := Lib.hid hR1
      clear hV1 hR1
      go_wp2_with (fail)
      refine (take_any S p ⟨l.drop 2, 0⟩ sz w1 HR1.out.1 HB2.out.2).mono ?_
      rintro e w2 ⟨ao2, cap2, D2, rfl, hV2, hD2, hR2⟩
      have HV2 := Lib.hid hV2
      have HR2 := Lib.hid hR2
      clear hV2 hR2
      go_wp2_with (fail)
      have hlen : ((l.drop 2).take sz).length = sz := by rw [List.length_take]; have := HB2.out.2; omega
      have hcl := clone_any D2 ao2 ((l.drop 2).take sz) cap2 w2 HV2.out (by have := HB2.out.2; rw [List.length_drop] at this; omega)
      unfold CloneDone at hcl
      rw [hlen] at hcl
      have HL := Lib.hid hlen
      refine hcl.mono ?_
      rintro e w3 ⟨ao3, cap3, T3, rfl, hr3, hs3⟩
      have HR3 := Lib.hid hr3
      clear hcl hr3 hlen
      go_wp2
      go_ret
      rw [hfin.out]
      exact RawDone.mk' HL.out ⟨HR2.out.1, HR1.out.2.trans HR2.out.2⟩ HR3.out hs3
    · have hfin : Hid (RS.blob ⟨l, 0⟩ most = ([], ⟨l, er⟩)) := by
        simp only [Hid, RS.blob, hbs]
        rw [if_neg (by simp), if_pos hz]
      have HB := Lib.hid hbs
      clear hbs
      go_enter Tryd.func30, Tryd.ntmps30
      go_wp2_with (fail)
      refine hsz.out.mono ?_
      rintro e w1 ⟨rfl, rfl⟩
      rw [HB.out]
      go_wp2
      go_ret
      rw [hfin.out]
      exact RawDone.empty (hR0.out.fault 0 er)
  · have hfin : Hid (RS.blob ⟨l, err⟩ most = ([], ⟨l, err⟩)) := by simp [Hid, RS.blob, he]
    have he' : (err == 0) = false := by simp [he]
    go_enter Tryd.func30, Tryd.ntmps30
    go_wp2
    go_ret
    rw [hfin.out]
    exact RawDone.empty hR0.out.same

end Cod
end Go.Proofs.YtllmogicmimjlaaDoor

end
section
namespace Go.Proofs.YtllmogicmimjlaaDoor
open Go.RowKit Go.Own
namespace Cod

/-- a writer, a reader as objects -/
def AW (p : Nat) (s : WS) : Asn where
  holds S w := Wr w S p s
  keep h g hd := h.keep g hd
  lt h := h.lt
def AR (p : Nat) (r : RS) : Asn where
  holds S w := Rd w S p r
  keep h g hd := h.keep g hd
  lt h := h.lt
/-- a slice of bytes of one's own -/
def AB (ao : Option Addr) (n cap : Nat) (l : List UInt8) : Asn := ARow 5 1 (.slice ao n cap) n (l.map byteV)

theorem AB.view {w : World} {S : Nat → Prop} {ao : Option Addr} {n cap : Nat} {l : List UInt8} (h : (AB ao n cap l).holds S w) : View w S ao l := Row.view h
theorem AB.len {w : World} {S : Nat → Prop} {ao : Option Addr} {n cap : Nat} {l : List UInt8} (h : (AB ao n cap l).holds S w) : l.length = n ∧ n ≤ cap ∧ cap ≤ maxLen := by
  obtain ⟨ao', cap', hv, h1, h2, _⟩ := Row.form h
  simp only [Value.slice.injEq, true_and] at hv
  obtain ⟨rfl, rfl⟩ := hv
  exact ⟨by have := h.own.1; simpa using this, h1, h2⟩

section
variable {B : Nat} {w0 w : World} {Ps : List Asn} {p : Nat} {s : WS} {r : RS}

theorem newWriter_st (H : St B w0 w Ps) (room : Int) (h1 : room ≤ 9223372036854775807) :
    Calls Tryd.prog 19 #[.int .i64 room] w fun e w' => ∃ p, e = .returned (.pointer (some ⟨p, 0, none⟩)) ∧ St B w0 w' (AW p ⟨max room 0, [], 0⟩ :: Ps) := by
  refine (newWriter_any room w h1).mono ?_
  rintro e w' ⟨p, S, he, hW, hs⟩
  exact ⟨p, he, H.new (AW p _) hW hs⟩

theorem num_st (H : St B w0 w Ps) (i : Nat) (hi : Ps[i]? = some (AW p s)) (n : Nat) (many : Int) (hxs : s.xs.length ≤ 100000000) :
    Calls Tryd.prog 20 #[.pointer (some ⟨p, 0, none⟩), .int .u64 n, .int .i64 many] w fun e w' => e = .returned (.tuple #[]) ∧ St B w0 w' (Ps.set i (AW p (s.num n many))) := by
  obtain ⟨S, hS, _, put⟩ := H.at i hi
  refine (num_any S p s n many w hS hxs).mono ?_
  rintro e w' ⟨he, S', hW, hs⟩
  exact ⟨he, put S' w' (AW p _) hW hs⟩

theorem raw_st (H : St B w0 w Ps) (i : Nat) (hi : Ps[i]? = some (AW p s)) {ao : Option Addr} {bs : List UInt8} (cap : Nat) (hV : View w (fun k => k < B) ao bs) (hbs : bs.length ≤ 100000000) (hxs : s.xs.length ≤ 100000000) :
    Calls Tryd.prog 22 #[.pointer (some ⟨p, 0, none⟩), .slice ao bs.length cap] w fun e w' => e = .returned (.tuple #[]) ∧ St B w0 w' (Ps.set i (AW p (s.lay bs))) := by
  obtain ⟨S, hS, hB, put⟩ := H.at i hi
  refine (raw_any S _ p s ao bs cap w hS hV (fun k hk h => by have := hB k h; omega) hbs hxs).mono ?_
  rintro e w' ⟨he, S', hW, hs⟩
  exact ⟨he, put S' w' (AW p _) hW hs⟩

theorem blob_st (H : St B w0 w Ps) (i : Nat) (hi : Ps[i]? = some (AW p s)) {ao : Option Addr} {bs : List UInt8} (cap : Nat) (hV : View w (fun k => k < B) ao bs) (hbs : bs.length ≤ 90000000) (hxs : s.xs.length ≤ 90000000) :
    Calls Tryd.prog 23 #[.pointer (some ⟨p, 0, none⟩), .slice ao bs.length cap] w fun e w' => e = .returned (.tuple #[]) ∧ St B w0 w' (Ps.set i (AW p (s.blob bs))) := by
  obtain ⟨S, hS, hB, put⟩ := H.at i hi
  refine (blob_any S _ p s ao bs cap w hS hV (fun k hk h => by have := hB k h; omega) hbs hxs).mono ?_
  rintro e w' ⟨he, S', hW, hs⟩
  exact ⟨he, put S' w' (AW p _) hW hs⟩

theorem out_st (H : St B w0 w Ps) (i : Nat) (hi : Ps[i]? = some (AW p s)) {n : Nat} (hn : s.xs.length = n) (hxs : n ≤ 1000000000) :
    Calls Tryd.prog 24 #[.pointer (some ⟨p, 0, none⟩)] w fun e w' => ∃ ao cap, e = .returned (.tuple #[.slice ao n cap, .int .i64 s.err]) ∧ St B w0 w' (AB ao n cap s.xs :: Ps) := by
  subst hn
  obtain ⟨S, hS, _, _⟩ := H.at i hi
  refine (out_any S p s w hS hxs).mono ?_
  rintro e w' ⟨ao, cap, T, he, hr, _, hs⟩
  exact ⟨ao, cap, he, H.new (AB ao _ cap s.xs) hr hs⟩

theorem newReader_old (H : St B w0 w Ps) {ao : Option Addr} {l : List UInt8} (cap : Nat) (hV : View w (fun k => k < B) ao l) (hl : l.length ≤ 1000000000) :
    Calls Tryd.prog 27 #[.slice ao l.length cap] w fun e w' => ∃ p, e = .returned (.pointer (some ⟨p, 0, none⟩)) ∧ St B w0 w' (AR p ⟨l, 0⟩ :: Ps) := by
  refine (newReader_any _ ao l cap w hV hl).mono ?_
  rintro e w' ⟨p, S, he, hR, hs⟩
  exact ⟨p, he, H.new (AR p _) hR hs⟩

theorem rnum_st (H : St B w0 w Ps) (i : Nat) (hi : Ps[i]? = some (AR p r)) (many : Int) {x : Nat × RS} (hx : r.num many = x) (hl : r.l.length ≤ 1000000000) :
    Calls Tryd.prog 28 #[.pointer (some ⟨p, 0, none⟩), .int .i64 many] w fun e w' => e = .returned (.int .u64 x.1) ∧ St B w0 w' (Ps.set i (AR p x.2)) := by
  subst hx
  obtain ⟨S, hS, _, put⟩ := H.at i hi
  refine (rnum_any S p r many w hS hl).mono ?_
  rintro e w' ⟨he, hR, hs⟩
  exact ⟨he, put S w' (AR p _) hR hs⟩

theorem rraw_st (H : St B w0 w Ps) (i : Nat) (hi : Ps[i]? = some (AR p r)) (n : Int) {x : List UInt8 × RS} (hx : r.raw n = x) {m : Nat} (hm : x.1.length = m) (hl : r.l.length ≤ 1000000000) :
    Calls Tryd.prog 29 #[.pointer (some ⟨p, 0, none⟩), .int .i64 n] w fun e w' => ∃ ao cap, e = .returned (.slice ao m cap) ∧ St B w0 w' (AB ao m cap x.1 :: Ps.set i (AR p x.2)) := by
  subst hx hm
  obtain ⟨S, hS, put⟩ := H.more i hi
  have hlt := (AR p r).lt hS
  refine (rraw_any S p r n w hS hl).mono ?_
  rintro e w' ⟨ao, cap, T, he, hr, hR, hs, hT⟩
  exact ⟨ao, cap, he, put S T w' (AR p _) (AB ao _ cap _) hR hr hs hT hlt⟩

theorem rblob_st (H : St B w0 w Ps) (i : Nat) (hi : Ps[i]? = some (AR p r)) (n : Int) (hn : n ≤ 9223372036854775807) {x : List UInt8 × RS} (hx : r.blob n = x) {m : Nat} (hm : x.1.length = m) (hl : r.l.length ≤ 1000000000) :
    Calls Tryd.prog 30 #[.pointer (some ⟨p, 0, none⟩), .int .i64 n] w fun e w' => ∃ ao cap, e = .returned (.slice ao m cap) ∧ St B w0 w' (AB ao m cap x.1 :: Ps.set i (AR p x.2)) := by
  subst hx hm
  obtain ⟨S, hS, put⟩ := H.more i hi
  have hlt := (AR p r).lt hS
  refine (rblob_any S p r n w hS hl hn).mono ?_
  rintro e w' ⟨ao, cap, T, he, hr, hR, hs, hT⟩
  exact ⟨ao, cap, he, put S T w' (AR p _) (AB ao _ cap _) hR hr hs hT hlt⟩

theorem end_st (H : St B w0 w Ps) (i : Nat) (hi : Ps[i]? = some (AR p r)) :
    Calls Tryd.prog 31 #[.pointer (some ⟨p, 0, none⟩)] w fun e w' => e = .returned (.int .i64 r.fin) ∧ w = w' := by
  obtain ⟨S, hS, _, _⟩ := H.at i hi
  exact end_any S p r w hS
end

end Cod
end Go.Proofs.YtllmogicmimjlaaDoor

end
section
namespace Go.Proofs.YtllmogicmimjlaaDoor
open Go.RowKit Go.Own
namespace Rec
open Go.RecM Byt
theorem cod_le (n k : Nat) : Cod.le n k = RecM.le n k := by
  induction k with
  | zero => rfl
  | succ k ih => rw [Cod.le, RecM.le, ih]
/-- an answer of Lay: its bytes are one's own -/
def LayNew (x : RecM.Bs × Nat) (w : World) (e : Ending) (w' : World) : Prop := ∃ ao cap, e = .returned (.tuple #[.slice ao x.1.length cap, errN x.2]) ∧ Own.St w.heap.size w w' [AB ao x.1.length cap x.1]
/-- the fields of a note in a block -/
theorem nt_cells {B : Nat} {w0 w : World} {Ps : List Asn} {b : Nat} {cs : List Value} (H : Own.St B w0 w Ps) (i : Nat) (hi : Ps[i]? = some (AVals b 34 cs)) {n : Nte} {v : Value} (hcs : cs = ntC n v) (hs : n.sum.length = 32) :
    w.cell? ⟨b, 0, none⟩ = some (.int .u8 (n.kind.toNat : Int)) ∧ w.cell? ⟨b, 1, none⟩ = some (.int .u32 (n.addr : Int)) ∧ w.cell? ⟨b, 2, none⟩ = some (.int .u64 (n.seq : Int)) ∧ w.cell? ⟨b, 35, none⟩ = some (.int .u32 (n.kn : Int)) ∧ w.cell? ⟨b, 36, none⟩ = some v ∧
      (∀ a, some (⟨b, 3, none⟩ : Addr) = some a → ∀ j u, (n.sum.map byteV)[j]? = some u → w.cell? (a.add j) = some u) := by
  have cc : ∀ j u, cs[j]? = some u → w.cell? ⟨b, j, none⟩ = some u := fun j u h => (H.cellV i hi j h).1
  refine ⟨cc 0 _ (by rw [hcs]; rfl), cc 1 _ (by rw [hcs]; rfl), cc 2 _ (by rw [hcs]; rfl), cc 35 _ (by rw [hcs]; exact ntC_kn n v hs), cc 36 _ (by rw [hcs]; exact ntC_data n v hs), ?_⟩
  intro a ha j u hu
  cases ha
  rw [add_of]
  exact cc (3 + j) u (by rw [hcs]; exact ntC_sum n v j u hu)
theorem own_news {B : Nat} {w0 w : World} {Ps : List Asn} {ao : Option Addr} {n cap : Nat} {l : List UInt8} (H : Own.St B w0 w Ps) (i : Nat) (hi : Ps[i]? = some (AB ao n cap l)) : (ao = none → n = 0 ∧ cap = 0) ∧ (∀ a, ao = some a → ∀ j u, (l.map byteV)[j]? = some u → w.cell? (a.add j) = some u) :=
  ⟨(ab_len H i hi).2.2.2, vcells (ab_view H i hi)⟩
theorem lay_of {n : Nte} (hr : right n = true) : lay n = (laid n, 0) := by unfold lay; rw [if_pos hr]

end Rec
end Go.Proofs.YtllmogicmimjlaaDoor

end
section
namespace Go.Proofs.YtllmogicmimjlaaDoor
namespace Rec
open Go.RecM
open Cod (RS)
theorem cod_num (l : RecM.Bs) : Cod.num l = RecM.num l := by
  induction l with
  | nil => rfl
  | cons c r ih => rw [Cod.num, RecM.num, ih]
theorem num_lt (l : RecM.Bs) : RecM.num l < 2 ^ (8 * l.length) := by
  induction l with
  | nil => simp [RecM.num]
  | cons c r ih =>
    have e : 2 ^ (8 * (r.length + 1)) = 256 * 2 ^ (8 * r.length) := by rw [Nat.mul_add, Nat.pow_add]; simp [Nat.mul_comm]
    have := c.toNat_lt
    rw [RecM.num, List.length_cons, e]
    omega
theorem le_cons (k n : Nat) : RecM.le n (k + 1) = UInt8.ofNat n :: RecM.le (n / 256) k := by
  induction k with
  | zero => simp [RecM.le]
  | succ k ih =>
    rw [RecM.le, ih, RecM.le, List.cons_append]
    congr 3
    have e : 2 ^ (8 * (k + 1)) = 256 * 2 ^ (8 * k) := by rw [Nat.mul_add, Nat.pow_add]; simp [Nat.mul_comm]
    rw [e, Nat.div_div_eq_div_mul]
theorem le_num (l : RecM.Bs) : RecM.le (RecM.num l) l.length = l := by
  induction l with
  | nil => rfl
  | cons c r ih =>
    have hc := c.toNat_lt
    rw [List.length_cons, le_cons, RecM.num, show (c.toNat + 256 * RecM.num r) / 256 = RecM.num r by omega, ih]
    congr 1
    apply UInt8.toNat_inj.1
    simp
/-- a number is read -/
theorem num_ok {r : RS} {k x : Nat} {l' : RecM.Bs} (hk : k ≤ 8) (h : r.num (k : Int) = (x, ⟨l', 0⟩)) : r.err = 0 ∧ r.l = RecM.le x k ++ l' ∧ x < 2 ^ (8 * k) := by
  obtain ⟨l, e⟩ := r
  unfold RS.num at h
  by_cases he : e = 0
  · subst he
    rw [if_neg (by simp), if_neg (by omega)] at h
    by_cases hs : (l.length : Int) < (k : Int)
    · simp only [hs, if_true, Prod.mk.injEq, RS.mk.injEq] at h
      exact absurd h.2.2 (by decide)
    · simp only [hs, if_false, Prod.mk.injEq, RS.mk.injEq, Int.toNat_natCast, and_true] at h
      obtain ⟨rfl, rfl⟩ := h
      have hl : (l.take k).length = k := by rw [List.length_take]; omega
      refine ⟨rfl, ?_, ?_⟩
      · rw [cod_num]
        have := le_num (l.take k)
        rw [hl] at this
        rw [this, List.take_append_drop]
      · rw [cod_num]
        have := num_lt (l.take k)
        rw [hl] at this
        exact this
  · rw [if_pos (by exact he)] at h
    simp only [Prod.mk.injEq, RS.mk.injEq] at h
    exact absurd h.2.2 he
theorem raw_ok {r : RS} {k : Nat} {x l' : RecM.Bs} (h : r.raw (k : Int) = (x, ⟨l', 0⟩)) : r.err = 0 ∧ r.l = x ++ l' ∧ x.length = k := by
  obtain ⟨l, e⟩ := r
  unfold RS.raw at h
  by_cases he : e = 0
  · subst he
    rw [if_neg (by simp), if_neg (by omega)] at h
    by_cases hs : (l.length : Int) < (k : Int)
    · simp only [hs, if_true, Prod.mk.injEq, RS.mk.injEq] at h
      exact absurd h.2.2 (by decide)
    · simp only [hs, if_false, Prod.mk.injEq, RS.mk.injEq, Int.toNat_natCast, and_true] at h
      obtain ⟨rfl, rfl⟩ := h
      exact ⟨rfl, (List.take_append_drop _ _).symm, by rw [List.length_take]; omega⟩
  · rw [if_pos (by exact he)] at h
    simp only [Prod.mk.injEq, RS.mk.injEq] at h
    exact absurd h.2.2 he
theorem blob_ok {r : RS} {x l' : RecM.Bs} (h : r.blob 300 = (x, ⟨l', 0⟩)) : r.err = 0 ∧ r.l = RecM.le x.length 2 ++ (x ++ l') ∧ x.length ≤ 300 := by
  obtain ⟨l, e⟩ := r
  unfold RS.blob at h
  by_cases he : e = 0
  · subst he
    rw [if_neg (by simp)] at h
    simp only at h
    by_cases h1 : (Cod.blobSz l 300).2 ≠ 0
    · rw [if_pos h1] at h
      simp only [Prod.mk.injEq, RS.mk.injEq] at h
      exact absurd h.2.2 h1
    · rw [if_neg h1] at h
      simp only [Prod.mk.injEq, RS.mk.injEq, and_true] at h
      obtain ⟨rfl, rfl⟩ := h
      unfold Cod.blobSz at h1 ⊢
      by_cases a1 : l.length < 2
      · rw [if_pos a1] at h1; exact absurd (by decide) h1
      rw [if_neg a1] at h1 ⊢
      by_cases a2 : max 300 0 < (Cod.num (l.take 2) : Int)
      · rw [if_pos a2] at h1; exact absurd (by decide) h1
      rw [if_neg a2] at h1 ⊢
      by_cases a3 : l.length - 2 < Cod.num (l.take 2)
      · rw [if_pos a3] at h1; exact absurd (by decide) h1
      rw [if_neg a3] at h1 ⊢
      simp only
      have hl : (l.take 2).length = 2 := by rw [List.length_take]; omega
      have hxl : ((l.drop 2).take (Cod.num (l.take 2))).length = Cod.num (l.take 2) := by rw [List.length_take, List.length_drop]; omega
      refine ⟨trivial, ?_, by rw [hxl]; omega⟩
      rw [hxl, List.take_append_drop, cod_num]
      have := le_num (l.take 2)
      rw [hl] at this
      rw [this, List.take_append_drop]
  · rw [if_pos (by exact he)] at h
    simp only [Prod.mk.injEq, RS.mk.injEq] at h
    exact absurd h.2.2 he
theorem num_run (x k : Nat) (l : RecM.Bs) (hk : k ≤ 8) (hx : x < 2 ^ (8 * k)) : RS.num ⟨RecM.le x k ++ l, 0⟩ (k : Int) = (x, ⟨l, 0⟩) := by
  unfold RS.num
  rw [if_neg (by simp), if_neg (by omega), if_neg (by simp [RecM.le_len]; omega)]
  simp only [Int.toNat_natCast]
  rw [cod_num, num_take x k l hx, drop_le]
theorem raw_run (s l : RecM.Bs) (k : Nat) (hk : s.length = k) : RS.raw ⟨s ++ l, 0⟩ (k : Int) = (s, ⟨l, 0⟩) := by
  subst hk
  unfold RS.raw
  rw [if_neg (by simp), if_neg (by omega), if_neg (by rw [List.length_append]; omega)]
  simp
theorem blob_run (d l : RecM.Bs) (hd : d.length ≤ 300) : RS.blob ⟨RecM.le d.length 2 ++ (d ++ l), 0⟩ 300 = (d, ⟨l, 0⟩) := by
  have hn : Cod.num ((RecM.le d.length 2 ++ (d ++ l)).take 2) = d.length := by rw [cod_num]; exact num_take _ 2 _ (by omega)
  have hs : Cod.blobSz (RecM.le d.length 2 ++ (d ++ l)) 300 = (d.length, 0) := by
    unfold Cod.blobSz
    rw [hn, if_neg (by rw [List.length_append, RecM.le_len]; omega), if_neg (by omega), if_neg (by rw [List.length_append, RecM.le_len, List.length_append]; omega)]
  unfold RS.blob
  rw [if_neg (by simp)]
  simp only [hs]
  rw [if_neg (by simp), drop_le]
  simp
def pad (s : RecM.Bs) : RecM.Bs := s ++ List.replicate (32 - s.length) 0
/-- what the document's parse makes of bytes, and what is left -/
def parse (b : RecM.Bs) : Nte × RS :=
  let a := RS.num ⟨b, 0⟩ 1
  let c := UInt8.ofNat a.1
  let d := if c = 1 ∨ c = 2 then RS.num a.2 4 else (0, a.2)
  let s := if c = 4 then (0, d.2) else RS.num d.2 8
  if c = 1 ∨ c = 4 then
    let x := RS.raw s.2 32
    let k := RS.num x.2 4
    let y := RS.blob k.2 300
    (⟨c, d.1, s.1, pad x.1, k.1, y.1⟩, y.2)
  else (⟨c, d.1, s.1, zsum, 0, []⟩, s.2)
theorem fin_zero {r : RS} (h : r.fin = 0) : r = ⟨[], 0⟩ := by
  obtain ⟨l, e⟩ := r
  unfold RS.fin at h
  by_cases h1 : e = 0 ∧ l ≠ []
  · rw [if_pos h1] at h; exact absurd h (by decide)
  · rw [if_neg h1] at h
    simp only at h
    subst h
    have : l = [] := by
      cases l with
      | nil => rfl
      | cons a l => exact absurd ⟨rfl, by simp⟩ h1
    rw [this]
theorem parse_kind (b : RecM.Bs) : (parse b).1.kind = UInt8.ofNat (RS.num ⟨b, 0⟩ 1).1 := by
  unfold parse
  simp only
  split <;> rfl
theorem parse_1 {b : RecM.Bs} (h : UInt8.ofNat (RS.num ⟨b, 0⟩ 1).1 = 1) : parse b = (⟨1, (RS.num (RS.num ⟨b, 0⟩ 1).2 4).1, (RS.num (RS.num (RS.num ⟨b, 0⟩ 1).2 4).2 8).1, pad (RS.raw (RS.num (RS.num (RS.num ⟨b, 0⟩ 1).2 4).2 8).2 32).1, (RS.num (RS.raw (RS.num (RS.num (RS.num ⟨b, 0⟩ 1).2 4).2 8).2 32).2 4).1, (RS.blob (RS.num (RS.raw (RS.num (RS.num (RS.num ⟨b, 0⟩ 1).2 4).2 8).2 32).2 4).2 300).1⟩, (RS.blob (RS.num (RS.raw (RS.num (RS.num (RS.num ⟨b, 0⟩ 1).2 4).2 8).2 32).2 4).2 300).2) := by
  unfold parse
  have n12 : ¬ ((1 : UInt8) = 2) := by decide
  have n14 : ¬ ((1 : UInt8) = 4) := by decide
  have n21 : ¬ ((2 : UInt8) = 1) := by decide
  have n24 : ¬ ((2 : UInt8) = 4) := by decide
  have n31 : ¬ ((3 : UInt8) = 1) := by decide
  have n32 : ¬ ((3 : UInt8) = 2) := by decide
  have n34 : ¬ ((3 : UInt8) = 4) := by decide
  have n41 : ¬ ((4 : UInt8) = 1) := by decide
  have n42 : ¬ ((4 : UInt8) = 2) := by decide
  simp only [h, n12, n14, or_false, if_true, if_false]
theorem parse_2 {b : RecM.Bs} (h : UInt8.ofNat (RS.num ⟨b, 0⟩ 1).1 = 2) : parse b = (⟨2, (RS.num (RS.num ⟨b, 0⟩ 1).2 4).1, (RS.num (RS.num (RS.num ⟨b, 0⟩ 1).2 4).2 8).1, zsum, 0, []⟩, (RS.num (RS.num (RS.num ⟨b, 0⟩ 1).2 4).2 8).2) := by
  unfold parse
  have n12 : ¬ ((1 : UInt8) = 2) := by decide
  have n14 : ¬ ((1 : UInt8) = 4) := by decide
  have n21 : ¬ ((2 : UInt8) = 1) := by decide
  have n24 : ¬ ((2 : UInt8) = 4) := by decide
  have n31 : ¬ ((3 : UInt8) = 1) := by decide
  have n32 : ¬ ((3 : UInt8) = 2) := by decide
  have n34 : ¬ ((3 : UInt8) = 4) := by decide
  have n41 : ¬ ((4 : UInt8) = 1) := by decide
  have n42 : ¬ ((4 : UInt8) = 2) := by decide
  simp only [h, n21, n24, or_true, or_self, if_true, if_false]
theorem parse_3 {b : RecM.Bs} (h : UInt8.ofNat (RS.num ⟨b, 0⟩ 1).1 = 3) : parse b = (⟨3, 0, (RS.num (RS.num ⟨b, 0⟩ 1).2 8).1, zsum, 0, []⟩, (RS.num (RS.num ⟨b, 0⟩ 1).2 8).2) := by
  unfold parse
  have n12 : ¬ ((1 : UInt8) = 2) := by decide
  have n14 : ¬ ((1 : UInt8) = 4) := by decide
  have n21 : ¬ ((2 : UInt8) = 1) := by decide
  have n24 : ¬ ((2 : UInt8) = 4) := by decide
  have n31 : ¬ ((3 : UInt8) = 1) := by decide
  have n32 : ¬ ((3 : UInt8) = 2) := by decide
  have n34 : ¬ ((3 : UInt8) = 4) := by decide
  have n41 : ¬ ((4 : UInt8) = 1) := by decide
  have n42 : ¬ ((4 : UInt8) = 2) := by decide
  simp only [h, n31, n32, n34, or_self, if_false]
theorem parse_4 {b : RecM.Bs} (h : UInt8.ofNat (RS.num ⟨b, 0⟩ 1).1 = 4) : parse b = (⟨4, 0, 0, pad (RS.raw (RS.num ⟨b, 0⟩ 1).2 32).1, (RS.num (RS.raw (RS.num ⟨b, 0⟩ 1).2 32).2 4).1, (RS.blob (RS.num (RS.raw (RS.num ⟨b, 0⟩ 1).2 32).2 4).2 300).1⟩, (RS.blob (RS.num (RS.raw (RS.num ⟨b, 0⟩ 1).2 32).2 4).2 300).2) := by
  unfold parse
  have n12 : ¬ ((1 : UInt8) = 2) := by decide
  have n14 : ¬ ((1 : UInt8) = 4) := by decide
  have n21 : ¬ ((2 : UInt8) = 1) := by decide
  have n24 : ¬ ((2 : UInt8) = 4) := by decide
  have n31 : ¬ ((3 : UInt8) = 1) := by decide
  have n32 : ¬ ((3 : UInt8) = 2) := by decide
  have n34 : ¬ ((3 : UInt8) = 4) := by decide
  have n41 : ¬ ((4 : UInt8) = 1) := by decide
  have n42 : ¬ ((4 : UInt8) = 2) := by decide
  simp only [h, n41, n42, or_true, or_self, if_true, if_false]
theorem pad_id {s : RecM.Bs} (h : s.length = 32) : pad s = s := by unfold pad; rw [h]; simp
theorem one_le (c : UInt8) (l : RecM.Bs) : c :: l = RecM.le c.toNat 1 ++ l := by
  simp [RecM.le]
theorem zsum_len : zsum.length = 32 := by simp [zsum]
/-- the first byte -/
theorem first_a {b : RecM.Bs} {l : RecM.Bs} {e : Int} (he : e = 0) {x : Nat} (h : RS.num ⟨b, 0⟩ 1 = (x, ⟨l, e⟩)) : b = UInt8.ofNat x :: l := by
  subst he
  obtain ⟨_, h2, h3⟩ := num_ok (k := 1) (by omega) h
  rw [one_le, show (UInt8.ofNat x).toNat = x by simp; omega]
  exact h2
theorem pair_eta {α β : Type} (p : α × β) {x : β} (h : p.2 = x) : p = (p.1, x) := by rw [← h]
/-- what was parsed to the end, and is right, is the note whose bytes these are -/
theorem parse_a {b : RecM.Bs} (hf : (parse b).2.fin = 0) (hr : right (parse b).1 = true) : Fits (parse b).1 ∧ laid (parse b).1 = b := by
  have h0 := fin_zero hf
  have hk := right_kind hr
  rw [parse_kind] at hk
  clear hf
  obtain ⟨a, ha⟩ : ∃ a, a = RS.num ⟨b, 0⟩ 1 := ⟨_, rfl⟩
  rw [← ha] at hk
  obtain ⟨a1, al, ae⟩ := a
  have ha' := ha.symm
  rcases hk with k | k | k | k
  · rw [parse_1 (by rw [ha']; exact k)] at h0 ⊢
    rw [ha'] at h0 ⊢
    simp only at h0 k ⊢
    obtain ⟨d, hd⟩ : ∃ d, d = RS.num ⟨al, ae⟩ 4 := ⟨_, rfl⟩
    rw [← hd] at h0 ⊢
    obtain ⟨s, hs⟩ : ∃ s, s = RS.num d.2 8 := ⟨_, rfl⟩
    rw [← hs] at h0 ⊢
    obtain ⟨x, hx⟩ : ∃ x, x = RS.raw s.2 32 := ⟨_, rfl⟩
    rw [← hx] at h0 ⊢
    obtain ⟨n, hn⟩ : ∃ n, n = RS.num x.2 4 := ⟨_, rfl⟩
    rw [← hn] at h0 ⊢
    obtain ⟨y1, hy1⟩ : ∃ y, y = (RS.blob n.2 300).1 := ⟨_, rfl⟩
    have hy : RS.blob n.2 300 = (y1, ⟨[], 0⟩) := by rw [hy1]; exact pair_eta _ h0
    rw [← hy1]
    obtain ⟨n1, nl, ne⟩ := n
    obtain ⟨q1, q2, q3⟩ := blob_ok hy
    simp only at q1 q2 ⊢
    subst q1
    obtain ⟨x1, xl, xe⟩ := x
    obtain ⟨p1, p2, p3⟩ := num_ok (k := 4) (by omega) hn.symm
    simp only at p1 p2 ⊢
    subst p1
    obtain ⟨s1, sl, se⟩ := s
    obtain ⟨r1, r2, r3⟩ := raw_ok (k := 32) hx.symm
    simp only at r1 r2 ⊢
    subst r1
    obtain ⟨d1, dl, de⟩ := d
    obtain ⟨t1, t2, t3⟩ := num_ok (k := 8) (by omega) hs.symm
    simp only at t1 t2 ⊢
    subst t1
    obtain ⟨u1, u2, u3⟩ := num_ok (k := 4) (by omega) hd.symm
    simp only at u1 u2 ⊢
    subst u1
    have hb := first_a rfl ha'
    rw [pad_id r3]
    refine ⟨⟨by simpa using u3, by simpa using t3, r3, by simpa using p3⟩, ?_⟩
    rw [hb, k, u2, t2, r2, p2, q2]
    simp [laid, RecM.tail]
  · rw [parse_2 (by rw [ha']; exact k)] at h0 ⊢
    rw [ha'] at h0 ⊢
    simp only at h0 k ⊢
    obtain ⟨d, hd⟩ : ∃ d, d = RS.num ⟨al, ae⟩ 4 := ⟨_, rfl⟩
    rw [← hd] at h0 ⊢
    obtain ⟨y1, hy1⟩ : ∃ y, y = (RS.num d.2 8).1 := ⟨_, rfl⟩
    have hy : RS.num d.2 8 = (y1, ⟨[], 0⟩) := by rw [hy1]; exact pair_eta _ h0
    rw [← hy1]
    obtain ⟨d1, dl, de⟩ := d
    obtain ⟨t1, t2, t3⟩ := num_ok (k := 8) (by omega) hy
    simp only at t1 t2 ⊢
    subst t1
    obtain ⟨u1, u2, u3⟩ := num_ok (k := 4) (by omega) hd.symm
    simp only at u1 u2 ⊢
    subst u1
    have hb := first_a rfl ha'
    refine ⟨⟨by simpa using u3, by simpa using t3, zsum_len, Nat.zero_lt_succ _⟩, ?_⟩
    rw [hb, k, u2, t2]
    simp [laid]
  · rw [parse_3 (by rw [ha']; exact k)] at h0 ⊢
    rw [ha'] at h0 ⊢
    simp only at h0 k ⊢
    obtain ⟨y1, hy1⟩ : ∃ y, y = (RS.num ⟨al, ae⟩ 8).1 := ⟨_, rfl⟩
    have hy : RS.num ⟨al, ae⟩ 8 = (y1, ⟨[], 0⟩) := by rw [hy1]; exact pair_eta _ h0
    rw [← hy1]
    obtain ⟨t1, t2, t3⟩ := num_ok (k := 8) (by omega) hy
    simp only at t1 t2 ⊢
    subst t1
    have hb := first_a rfl ha'
    refine ⟨⟨Nat.zero_lt_succ _, by simpa using t3, zsum_len, Nat.zero_lt_succ _⟩, ?_⟩
    rw [hb, k, t2]
    simp [laid]
  · rw [parse_4 (by rw [ha']; exact k)] at h0 ⊢
    rw [ha'] at h0 ⊢
    simp only at h0 k ⊢
    obtain ⟨x, hx⟩ : ∃ x, x = RS.raw ⟨al, ae⟩ 32 := ⟨_, rfl⟩
    rw [← hx] at h0 ⊢
    obtain ⟨n, hn⟩ : ∃ n, n = RS.num x.2 4 := ⟨_, rfl⟩
    rw [← hn] at h0 ⊢
    obtain ⟨y1, hy1⟩ : ∃ y, y = (RS.blob n.2 300).1 := ⟨_, rfl⟩
    have hy : RS.blob n.2 300 = (y1, ⟨[], 0⟩) := by rw [hy1]; exact pair_eta _ h0
    rw [← hy1]
    obtain ⟨n1, nl, ne⟩ := n
    obtain ⟨q1, q2, q3⟩ := blob_ok hy
    simp only at q1 q2 ⊢
    subst q1
    obtain ⟨x1, xl, xe⟩ := x
    obtain ⟨p1, p2, p3⟩ := num_ok (k := 4) (by omega) hn.symm
    simp only at p1 p2 ⊢
    subst p1
    obtain ⟨r1, r2, r3⟩ := raw_ok (k := 32) hx.symm
    simp only at r1 r2 ⊢
    subst r1
    have hb := first_a rfl ha'
    rw [pad_id r3]
    refine ⟨⟨Nat.zero_lt_succ _, Nat.zero_lt_succ _, r3, by simpa using p3⟩, ?_⟩
    rw [hb, k, r2, p2, q2]
    simp [laid, RecM.tail]
/-- a note's bytes are parsed as the note, to the end -/
theorem parse_b {n : Nte} (f : Fits n) (hr : right n = true) : parse (laid n) = (n, ⟨[], 0⟩) := by
  have hk := right_kind hr
  have hd := right_data hr
  have b1 := f.addr
  have b2 := f.seq
  have b3 := f.kn
  have hfst : ∀ l, RS.num ⟨n.kind :: l, 0⟩ 1 = (n.kind.toNat, ⟨l, 0⟩) := by
    intro l
    have := num_run n.kind.toNat 1 l (by omega) (by have := n.kind.toNat_lt; omega)
    rw [← one_le] at this
    exact this
  obtain ⟨c, ad, sq, su, kn, da⟩ := n
  simp only at *
  rcases hk with k | k | k | k
  all_goals subst k
  · have e : laid ⟨1, ad, sq, su, kn, da⟩ = 1 :: (RecM.le ad 4 ++ (RecM.le sq 8 ++ (su ++ (RecM.le kn 4 ++ (RecM.le da.length 2 ++ (da ++ [])))))) := by simp [laid, RecM.tail]
    rw [e]
    have h1 := hfst (RecM.le ad 4 ++ (RecM.le sq 8 ++ (su ++ (RecM.le kn 4 ++ (RecM.le da.length 2 ++ (da ++ []))))))
    rw [parse_1 (by rw [h1]; rfl), h1]
    simp only [num_run ad 4 _ (by omega) (by omega), num_run sq 8 _ (by omega) (by omega), raw_run su _ 32 f.sum, num_run kn 4 _ (by omega) (by omega), blob_run da _ hd, pad_id f.sum, show (4 : Int) = ((4 : Nat) : Int) from rfl, show (8 : Int) = ((8 : Nat) : Int) from rfl, show (32 : Int) = ((32 : Nat) : Int) from rfl]
  · obtain ⟨z1, z2, z3⟩ := right_2 hr rfl
    simp only at z1 z2 z3
    subst z1 z2 z3
    have e : laid ⟨2, ad, sq, zsum, 0, []⟩ = 2 :: (RecM.le ad 4 ++ (RecM.le sq 8 ++ [])) := by simp [laid]
    rw [e]
    have h1 := hfst (RecM.le ad 4 ++ (RecM.le sq 8 ++ []))
    rw [parse_2 (by rw [h1]; rfl), h1]
    simp only [num_run ad 4 _ (by omega) (by omega), num_run sq 8 _ (by omega) (by omega), show (4 : Int) = ((4 : Nat) : Int) from rfl, show (8 : Int) = ((8 : Nat) : Int) from rfl]
  · obtain ⟨z0, z1, z2, z3⟩ := right_3 hr rfl
    simp only at z0 z1 z2 z3
    subst z0 z1 z2 z3
    have e : laid ⟨3, 0, sq, zsum, 0, []⟩ = 3 :: (RecM.le sq 8 ++ []) := by simp [laid]
    rw [e]
    have h1 := hfst (RecM.le sq 8 ++ [])
    rw [parse_3 (by rw [h1]; rfl), h1]
    simp only [num_run sq 8 _ (by omega) (by omega), show (8 : Int) = ((8 : Nat) : Int) from rfl]
  · obtain ⟨z0, z1, z2⟩ := right_4 hr rfl
    simp only at z0 z1 z2
    subst z0 z1
    have e : laid ⟨4, 0, 0, su, kn, da⟩ = 4 :: (su ++ (RecM.le kn 4 ++ (RecM.le da.length 2 ++ (da ++ [])))) := by simp [laid, RecM.tail]
    rw [e]
    have h1 := hfst (su ++ (RecM.le kn 4 ++ (RecM.le da.length 2 ++ (da ++ []))))
    rw [parse_4 (by rw [h1]; rfl), h1]
    simp only [raw_run su _ 32 f.sum, num_run kn 4 _ (by omega) (by omega), blob_run da _ hd, pad_id f.sum, show (4 : Int) = ((4 : Nat) : Int) from rfl, show (32 : Int) = ((32 : Nat) : Int) from rfl]
theorem take_parse (b : RecM.Bs) : RecM.take b = if (parse b).2.fin = 0 ∧ right (parse b).1 = true then ((parse b).1, 0) else (zeroN, 100) := by
  by_cases h : IsNote b
  · obtain ⟨n, f, hr, rfl⟩ := h
    have hp := parse_b f hr
    rw [take_laid f hr, hp, if_pos ⟨by unfold RS.fin; simp, hr⟩]
  · rw [take_none h, if_neg]
    rintro ⟨h1, h2⟩
    obtain ⟨f, e⟩ := parse_a h1 h2
    exact h ⟨_, f, h2, e⟩
end Rec
end Go.Proofs.YtllmogicmimjlaaDoor

end
section
namespace Go.Proofs.YtllmogicmimjlaaDoor
open Go.RowKit Go.Own
namespace Rec
open Go.RecM Byt
open Cod (RS)
abbrev nilV : Value := .slice none 0 0
abbrev ntV (n : Nte) (v : Value) : Value := .agg (ntC n v).toArray
theorem built_note (k : Nat) : Tryd.prog.built 34 [(0, .int .u8 (k : Int))] = some (.int .u8 (k : Int) :: (ntC zeroN nilV).drop 1).toArray := by kernel_rfl
theorem built_note0 : Tryd.prog.built 34 [] = some (ntC zeroN nilV).toArray := by kernel_rfl
theorem zero_note : (Tryd.prog.info? 34).bind (·.zero) = some (.agg (ntC zeroN nilV).toArray) := by kernel_rfl
theorem ntC_setN (n : Nte) (v : Value) (h : n.sum.length = 32) (k : Nat) : (ntC n v).set 35 (.int .u32 (k : Int)) = ntC { n with kn := k } v := by
  unfold ntC keyC
  show _ :: _ :: _ :: ((((n.sum.map byteV) ++ [Value.int .u32 (n.kn : Int)]) ++ [v]).set 32 (.int .u32 (k : Int))) = _
  rw [List.append_assoc, List.set_append_right _ _ (by simp [h]), List.append_assoc, List.length_map, h]
  rfl
theorem ntC_setD (n : Nte) (v u : Value) (h : n.sum.length = 32) : (ntC n v).set 36 u = ntC n u := by
  unfold ntC
  show _ :: _ :: _ :: ((keyC n.sum n.kn ++ [v]).set 33 u) = _
  rw [List.set_append_right _ _ (by rw [keyC_len _ _ h]; omega), keyC_len _ _ h]
  rfl
theorem num_bound (r : RS) (k : Nat) (hk : k ≤ 8) : (r.num (k : Int)).1 < 2 ^ (8 * k) := by
  obtain ⟨l, e⟩ := r
  unfold RS.num
  split
  · exact Nat.two_pow_pos _
  split
  · exact Nat.two_pow_pos _
  simp only
  split
  · exact Nat.two_pow_pos _
  · simp only [Int.toNat_natCast]
    rw [cod_num]
    exact Nat.lt_of_lt_of_le (num_lt _) (Nat.pow_le_pow_right (by decide) (by rw [List.length_take]; omega))
theorem raw_size (r : RS) : (r.raw 32).1.length = 0 ∨ (r.raw 32).1.length = 32 := by
  obtain ⟨l, e⟩ := r
  unfold RS.raw
  split
  · exact .inl rfl
  split
  · exact .inl rfl
  simp only
  split
  · exact .inl rfl
  · rename_i h
    right
    rw [List.length_take]
    show min 32 l.length = 32
    omega
theorem blob_size (r : RS) : (r.blob 300).1.length ≤ 300 := by
  obtain ⟨l, e⟩ := r
  unfold RS.blob
  split
  · exact Nat.zero_le _
  simp only
  split
  · exact Nat.zero_le _
  · simp only
    rw [List.length_take]
    unfold Cod.blobSz
    split
    · exact Nat.zero_le _
    split
    · exact Nat.zero_le _
    split
    · exact Nat.zero_le _
    · simp only; omega
end Rec
end Go.Proofs.YtllmogicmimjlaaDoor

end
section
namespace Go.Proofs.YtllmogicmimjlaaDoor
open Go.RowKit Go.Own
namespace Rec
open Go.RecM Byt
def RetYes (w : World) (e : Ending) (w' : World) : Prop := e = .returned (.bool true) ∧ Below w.heap.size w w'
/-- an answer of Lay -/
def LayDone (x : RecM.Bs × Nat) (w : World) (e : Ending) (w' : World) : Prop := ∃ ao cap, e = .returned (.tuple #[.slice ao x.1.length cap, errN x.2]) ∧ Given w' ao x.1.length cap x.1 ∧ Below w.heap.size w w'
theorem LayNew.done {x : RecM.Bs × Nat} {w : World} {e : Ending} {w' : World} (h : LayNew x w e w') : LayDone x w e w' := by
  obtain ⟨ao, cap, he, h⟩ := h
  exact ⟨ao, cap, he, given_own h 0 rfl, h.below⟩
/-- an answer of Take in memory of its own -/
def TakeNew (x : Nte × Nat) (w : World) (e : Ending) (w' : World) : Prop := ∃ ao cap, e = .returned (.tuple #[ntV x.1 (.slice ao x.1.data.length cap), errN x.2]) ∧ Given w' ao x.1.data.length cap x.1.data ∧ View w' (fun k => w.heap.size ≤ k) ao x.1.data ∧ Below w.heap.size w w'
structure Kept (W : World) where
  right : ∀ {w : World} (n : Nte) (ao : Option Addr) (len cap : Nat), Fits n → Below W.heap.size W w → Given w ao len cap n.data → len ≤ 1000000 →
    Calls Tryd.prog 18 #[ntV n (.slice ao len cap)] w fun e w' => e = .returned (.bool (right n)) ∧ Below w.heap.size w w'
  lay : ∀ {w : World} (n : Nte) (ao : Option Addr) (len cap : Nat), Fits n → Below W.heap.size W w → Given w ao len cap n.data → len ≤ 1000000 →
    Calls Tryd.prog 8 #[ntV n (.slice ao len cap)] w (LayDone (lay n) w)
  take : ∀ {w : World} (ao : Option Addr) (n cap : Nat) (p : RecM.Bs), Below W.heap.size W w → Given w ao n cap p → n ≤ 1000000 →
    Calls Tryd.prog 12 #[.slice ao n cap] w (TakeNew (RecM.take p) w)
  pages : ∀ {w : World} (n : Nte) (ao : Option Addr) (len cap : Nat), Fits n → Below W.heap.size W w → Given w ao len cap n.data → len ≤ 1000000 →
    Calls Tryd.prog 10 #[ntV n (.slice ao len cap)] w fun e w' => e = .returned (.int .i64 (pagesN n : Int)) ∧ Below w.heap.size w w'

theorem laid_small {n : Nte} (f : Fits n) (h : right n = true) : (laid n).length ≤ 351 ∧ 0 < (laid n).length := by
  have := right_data h
  rw [laid_len f]
  unfold sizeN
  split
  · omega
  split
  · omega
  split <;> omega
end Rec
end Go.Proofs.YtllmogicmimjlaaDoor

end
section
namespace Go.Proofs.YtllmogicmimjlaaDoor
open Go.RowKit Go.Own
namespace Cod

theorem num_le (n k : Nat) : num (le n k) = n % 2 ^ (8 * k) := by
  induction k with
  | zero => simp [le, num, Nat.mod_one]
  | succ k ih =>
    rw [le, num_snoc, ih, le_len]
    have e : 2 ^ (8 * (k + 1)) = 2 ^ (8 * k) * 256 := by rw [Nat.mul_add, Nat.pow_add]
    rw [e, Nat.mod_mul]
    simp

theorem lay_fits (s : WS) (bs : List UInt8) (he : s.err = 0) (h : (bs.length : Int) ≤ s.room - s.xs.length) : s.lay bs = ⟨s.room, s.xs ++ bs, 0⟩ := by
  unfold WS.lay
  rw [if_neg (by simpa using he), if_neg (by omega), he]
theorem num_fits (s : WS) (n k : Nat) (he : s.err = 0) (hk : k ≤ 8) (h : (k : Int) ≤ s.room - s.xs.length) : s.num n k = ⟨s.room, s.xs ++ le n k, 0⟩ := by
  unfold WS.num
  rw [if_neg (by simpa using he), if_neg (by omega), Int.toNat_natCast, lay_fits s _ he (by rw [le_len]; exact h)]
theorem blob_fits (s : WS) (bs : List UInt8) (he : s.err = 0) (hb : bs.length ≤ 65535) (h : ((2 + bs.length : Nat) : Int) ≤ s.room - s.xs.length) : s.blob bs = ⟨s.room, s.xs ++ (le bs.length 2 ++ bs), 0⟩ := by
  unfold WS.blob
  rw [if_neg (by simpa using he), if_neg (by omega), lay_fits s _ he (by rw [List.length_append, le_len]; exact h)]

end Cod
end Go.Proofs.YtllmogicmimjlaaDoor

end
