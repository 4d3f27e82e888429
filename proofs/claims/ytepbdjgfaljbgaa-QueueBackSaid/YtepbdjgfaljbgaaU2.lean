/- Merged: RecR TabM Roc LaxF TabR Res Cod CodC CodS TabRd Win Acts QueR LaxG LaxH Slo QueRb QueRc LaxV -/
import Derived.Deep.MidRow
import Derived.Laws.StructEq
import Derived.Laws.Rows
import Derived.Great.Walk
import Derived.Lib.Hide
import Derived.WalkKit
import Derived.BigQuiet
import Derived.BigRegion
import Derived.Deep.QuietTactic
import Derived.Test.YtepbdjgfaljbgaaRows
import Derived.Deep.RegionLaw
import Derived.Deep.DeepMust
import Derived.WalkSpells
import Derived.WalkLawsBesides
import Derived.OwnWalk
import Derived.Lib.SlBytesRow
import Derived.Lib.Strings
import Derived.ArgAppend
import Derived.Laws.BitsAllLaws
import Derived.Test.YtepbdjgfaljbgaaU1
set_option linter.unusedVariables false
section
namespace Go.Proofs.Ytepbdjgfaljbgaa
open Go.RowKit Go.Own
namespace Rec
open Go.RecM Byt

def keyC (s : RecM.Bs) (k : Nat) : List Value := s.map byteV ++ [.int .u32 (k : Int)]
theorem keyC_len (s : RecM.Bs) (k : Nat) (h : s.length = 32) : (keyC s k).length = 33 := by unfold keyC; simp [h]
theorem info_key (cs : List Value) (h : cs.length = 33) : (Try.prog.info? 36).map (·.size) = some cs.length := by
  have h0 : (Try.prog.info? 36).map (fun i => i.size) = some 33 := by kernel_rfl
  rw [h]; exact h0
/-- a key, a note are loaded, whatever the guard -/
theorem load_key (cs : List Value) (hl : cs.length = 33) {o : Oper} {x : Tmp} (ho : o.op = .load 36 (.tmp x)) {b k : Nat} (ρ : Operand → Value) {w : World} (hr : w.rangeAt b k cs) (h0 : ρ (.tmp x) = .pointer (some ⟨b, k, none⟩)) : (execOp ρ o).run Try.prog w = .ok (.value (.agg cs.toArray)) w := by
  have := run_loadAt_mid (P := Try.prog) w b k 36 cs _ hr Try.underlying36 rfl (info_key cs hl)
  unfold execOp
  simp only [ho, h0, Sem.run_bind, this, Result.andThen_ok, Sem.run_pure]
theorem built_key0 : Try.prog.built 36 [] = some (keyC zsum 0).toArray := by kernel_rfl
theorem zero_key {o : Oper} (ho : o.op = .build 36 #[]) (ρ : Operand → Value) (w : World) : (execOp ρ o).run Try.prog w = .ok (.value (.agg (keyC zsum 0).toArray)) w := by
  have := run_build w 36 (#[] : Array (Nat × Value)) _ built_key0
  unfold execOp
  simp only [ho, List.map_toArray, List.map_nil, Sem.run_bind, this, Result.andThen_ok, Sem.run_pure]
theorem bytes_ints (l : RecM.Bs) : (l.map (fun x => (x.toNat : Int))).map (Value.int .u8) = l.map byteV := by
  rw [List.map_map]; rfl
theorem bytes_eq (a b : RecM.Bs) : decide (a.map (fun x => (x.toNat : Int)) = b.map (fun x => (x.toNat : Int))) = decide (a = b) := by
  apply decide_eq_decide.2
  constructor
  · intro h
    exact (List.map_inj_right (fun x y h => UInt8.toNat_inj.1 (by omega))).1 h
  · rintro rfl; rfl
theorem run_eq_sum (d : Nat) (a b : RecM.Bs) (ha : a.length = 32) (hb : b.length = 32) (w : World) : (Op.equalIn (d + 2) 34 (.agg (a.map byteV).toArray) (.agg (b.map byteV).toArray)).run Try.prog w = .ok (decide (a = b)) w := by
  have h := run_equalIn_ints (P := Try.prog) d 34 5 .u8 (a.map (fun x => (x.toNat : Int))) (b.map (fun x => (x.toNat : Int))) (by simp [ha, hb]) (by rw [List.length_map, ha]; exact Try.underlying34) Try.underlying5 (fun w => by kernel_rfl) (fun w => by kernel_rfl) w
  rw [bytes_eq, bytes_ints, bytes_ints] at h
  exact h
theorem key_fields : (Try.prog.fieldsOf 36).toList.map (fun f => (f.name, f.type, f.offset)) = [("Sum", 34, 0), ("N", 32, 32)] := by kernel_rfl
theorem part_sum (a : RecM.Bs) (x : Nat) (ha : a.length = 32) (w : World) : (part 34 (keyC a x).toArray 0).run Try.prog w = .ok (.agg (a.map byteV).toArray) w := by
  have h1 : ∀ w, (isAgg 34).run Try.prog w = .ok true w := fun w => by kernel_rfl
  have h2 : ∀ w, (sizeOf 34).run Try.prog w = .ok 32 w := fun w => by kernel_rfl
  have e : (keyC a x).toArray.extract 0 (0 + 32) = (a.map byteV).toArray := by
    unfold keyC
    rw [List.extract_toArray]
    congr 1
    rw [List.extract_eq_take_drop, List.drop_zero, List.take_append_of_le_length (by simp [ha]), List.take_of_length_le (by simp [ha])]
  unfold part
  simp only [Sem.run_bind, h1, h2, Result.andThen_ok, if_true, Sem.run_pure, e]
theorem part_kn (a : RecM.Bs) (x : Nat) (ha : a.length = 32) (w : World) : (part 32 (keyC a x).toArray 32).run Try.prog w = .ok (.int .u32 (x : Int)) w := by
  have h1 : ∀ w, (isAgg 32).run Try.prog w = .ok false w := fun w => by kernel_rfl
  have e : (keyC a x).toArray[32]? = some (.int .u32 (x : Int)) := by
    unfold keyC
    rw [List.getElem?_toArray, List.getElem?_append_right (by simp [ha]), List.length_map, ha]
    rfl
  unfold part
  simp only [Sem.run_bind, h1, Result.andThen_ok, Bool.false_eq_true, if_false, e, Sem.run_pure]
theorem run_eq_key (a b : RecM.Bs) (x y : Nat) (ha : a.length = 32) (hb : b.length = 32) (w : World) : (Op.equalIn 10000 36 (.agg (keyC a x).toArray) (.agg (keyC b y).toArray)).run Try.prog w = .ok (decide (a = b) && decide (x = y)) w := by
  have ht : Try.prog.underlying 36 = some (.struct (Try.prog.fieldsOf 36)) := by kernel_rfl
  have hp : Try.prog.stoodInHeld 36 = false := by kernel_rfl
  have h := run_equalIn_struct (P := Try.prog) w 9999 36 (keyC a x).toArray (keyC b y).toArray ht hp
  rw [h]
  have hf := key_fields
  match hl : (Try.prog.fieldsOf 36).toList with
  | [] => rw [hl] at hf; simp at hf
  | [_] => rw [hl] at hf; simp at hf
  | _ :: _ :: _ :: _ => rw [hl] at hf; simp at hf
  | [f0, f1] =>
    rw [hl] at hf
    simp only [List.map_cons, List.map_nil, List.cons.injEq, Prod.mk.injEq, and_true] at hf
    obtain ⟨⟨n0, t0, o0⟩, n1, t1, o1⟩ := hf
    have hs := run_eq_sum 9997 a b ha hb w
    have hi := run_equalIn_int (P := Try.prog) w 9998 32 .u32 .u32 (x : Int) (y : Int) Try.underlying32
    simp only [Op.eqFields, n0, t0, o0, n1, t1, o1, ne_eq, String.reduceEq, not_false_eq_true, if_true, Sem.run_bind, part_sum a x ha, part_sum b y hb, Result.andThen_ok]
    rw [hs]
    by_cases hab : a = b
    · subst hab
      simp only [decide_true, Result.andThen_ok, Bool.not_true, Bool.false_eq_true, if_false, Sem.run_bind, part_kn a x ha, part_kn a y ha, Bool.true_and]
      rw [hi]
      by_cases hxy : x = y
      · simp [hxy]
      · have hxy' : ¬ (x : Int) = (y : Int) := by omega
        simp [hxy, hxy']
    · simp [hab]
theorem eql_key {o : Oper} {x y : Tmp} (ho : o.op = .binOp .eql 36 (.tmp x) (.tmp y) 36) {a b : RecM.Bs} {m n : Nat} (ha : a.length = 32) (hb : b.length = 32) {v : Bool} (hv : (decide (a = b) && decide (m = n)) = v) (ρ : Operand → Value) (w : World)
    (h0 : ρ (.tmp x) = .agg (keyC a m).toArray) (h1 : ρ (.tmp y) = .agg (keyC b n).toArray) : (execOp ρ o).run Try.prog w = .ok (.value (.bool v)) w := by
  have h' := run_eq_key a b m n ha hb w
  rw [hv] at h'
  have hm : Try.prog.eqGuardType Try.prog.depth 36 = false := by kernel_rfl
  have hg := run_eqGuard_agg (P := Try.prog) w .eql 36 (.tmp x) (.tmp y) (keyC a m).toArray (keyC b n).toArray hm
  have hb := run_eql_struct (P := Try.prog) w 36 (keyC a m).toArray (keyC b n).toArray
  rw [h'] at hb
  unfold execOp
  simp only [ho, h0, h1, Sem.run_bind, hg, Result.andThen_ok, hb, Sem.run_pure]

end Rec
end Go.Proofs.Ytepbdjgfaljbgaa

end
section
namespace Go.TabM
structure Sg where
  kind : Nat
  seq : Nat
  wear : Nat
def zS : Sg := ⟨0, 0, 0⟩
structure T where
  rows : List Sg
  next : Nat
def at_ (l : List Sg) (i : Nat) : Sg := l.getD i zS
/-- the first open segment, from i on -/
def curF : Nat → List Sg → Option Nat
  | _, [] => none
  | i, s :: l => if s.kind = 1 then some i else curF (i + 1) l
def cur (t : T) : Option Nat := curF 0 t.rows
/-- is a segment taken in the place of the best one so far -/
def takes (b : Option (Nat × Nat)) (s : Sg) : Bool := decide (s.kind = 0) && (match b with | none => true | some p => decide (s.wear < p.2))
def bestF : Option (Nat × Nat) → Nat → List Sg → Option (Nat × Nat)
  | b, _, [] => b
  | b, i, s :: l => bestF (if takes b s then some (i, s.wear) else b) (i + 1) l
def best (t : T) : Option (Nat × Nat) := bestF none 0 t.rows
def opened (t : T) (i w : Nat) : T := ⟨t.rows.set i ⟨1, t.next, w + 1⟩, t.next + 1⟩
/-- Open: what it leaves; the segment, its number, the error -/
def openT (t : T) : T × (Nat × Nat × Nat) :=
  match cur t with
  | some _ => (t, (0, 0, 3))
  | none => match best t with
    | none => (t, (0, 0, 5))
    | some (i, w) => (opened t i w, (i, t.next, 0))
def sealT (t : T) : T × Nat :=
  match cur t with
  | none => (t, 2)
  | some i => (⟨t.rows.set i { at_ t.rows i with kind := 2 }, t.next⟩, 0)
def relT (t : T) (seg : Int) : T × Nat :=
  if seg < 0 ∨ (t.rows.length : Int) ≤ seg then (t, 1)
  else if (at_ t.rows seg.toNat).kind ≠ 2 then (t, 2)
  else (⟨t.rows.set seg.toNat ⟨0, 0, (at_ t.rows seg.toNat).wear⟩, t.next⟩, 0)
structure ActD where
  kind : UInt8
  seg : Int
def doAct (t : T) (a : ActD) : T × (Nat × Nat × Nat) :=
  match a.kind.toNat % 3 with
  | 0 => openT t
  | 1 => ((sealT t).1, (0, 0, (sealT t).2))
  | _ => ((relT t a.seg).1, (0, 0, (relT t a.seg).2))

theorem at_eq {l : List Sg} {i : Nat} {s : Sg} (h : l[i]? = some s) : at_ l i = s := by unfold at_; rw [List.getD_eq_getElem?_getD, h]; rfl
theorem at_get {l : List Sg} {i : Nat} (h : i < l.length) : l[i]? = some (at_ l i) := by
  unfold at_; rw [List.getD_eq_getElem?_getD, List.getElem?_eq_getElem h]; rfl
theorem at_mem {l : List Sg} {i : Nat} (h : i < l.length) : at_ l i ∈ l := List.mem_of_getElem? (at_get h)

/-! ### what a table is -/
structure Ok (t : T) (N : Nat) : Prop where
  len : t.rows.length ≤ 256
  kind : ∀ s ∈ t.rows, s.kind ≤ 2
  wear : ∀ s ∈ t.rows, s.wear ≤ N
  seq : ∀ s ∈ t.rows, s.seq ≤ N
  low : 1 ≤ t.next
  next : t.next ≤ N + 1
theorem Ok.more {t : T} {N M : Nat} (h : Ok t N) (hm : N ≤ M) : Ok t M :=
  ⟨h.len, h.kind, fun s hs => Nat.le_trans (h.wear s hs) hm, fun s hs => Nat.le_trans (h.seq s hs) hm, h.low, by have := h.next; omega⟩
theorem curF_some : ∀ (l : List Sg) (j i : Nat), curF j l = some i → ∃ k s, i = j + k ∧ l[k]? = some s ∧ s.kind = 1
  | [], _, _, h => by cases h
  | s :: l, j, i, h => by
    unfold curF at h
    by_cases hs : s.kind = 1
    · rw [if_pos hs] at h
      cases h
      exact ⟨0, s, rfl, rfl, hs⟩
    · rw [if_neg hs] at h
      obtain ⟨k, s', e, h1, h2⟩ := curF_some l (j + 1) i h
      exact ⟨k + 1, s', by omega, h1, h2⟩
theorem cur_some {t : T} {i : Nat} (h : cur t = some i) : i < t.rows.length ∧ (at_ t.rows i).kind = 1 := by
  obtain ⟨k, s, e, h1, h2⟩ := curF_some _ _ _ h
  rw [Nat.zero_add] at e
  subst e
  exact ⟨(List.getElem?_eq_some_iff.1 h1).1, by rw [at_eq h1]; exact h2⟩
theorem bestF_some : ∀ (l : List Sg) (b : Option (Nat × Nat)) (j : Nat) (p : Nat × Nat), bestF b j l = some p → b = some p ∨ ∃ k s, p.1 = j + k ∧ l[k]? = some s ∧ s.kind = 0 ∧ s.wear = p.2
  | [], b, j, p, h => .inl h
  | x :: l, b, j, p, h => by
    unfold bestF at h
    rcases bestF_some l _ _ _ h with h1 | ⟨k, s, e, h1, h2, h3⟩
    · by_cases ht : takes b x = true
      · rw [if_pos ht] at h1
        cases h1
        refine .inr ⟨0, x, rfl, rfl, ?_, rfl⟩
        unfold takes at ht
        simp only [Bool.and_eq_true, decide_eq_true_eq] at ht
        exact ht.1
      · rw [if_neg ht] at h1
        exact .inl h1
    · exact .inr ⟨k + 1, s, by omega, h1, h2, h3⟩
theorem best_some {t : T} {i w : Nat} (h : best t = some (i, w)) : i < t.rows.length ∧ (at_ t.rows i).kind = 0 ∧ (at_ t.rows i).wear = w := by
  rcases bestF_some _ _ _ _ h with h1 | ⟨k, s, e, h1, h2, h3⟩
  · cases h1
  · simp only [Nat.zero_add] at e h3
    subst e
    exact ⟨(List.getElem?_eq_some_iff.1 h1).1, by rw [at_eq h1]; exact h2, by rw [at_eq h1]; exact h3⟩
theorem mem_set {l : List Sg} {i : Nat} {x s : Sg} (h : s ∈ l.set i x) : s = x ∨ s ∈ l := by
  rcases List.mem_or_eq_of_mem_set h with h | h
  · exact .inr h
  · exact .inl h
theorem ok_open {t : T} {N : Nat} (h : Ok t N) : Ok (openT t).1 (N + 1) := by
  unfold openT
  split
  · exact h.more (Nat.le_succ _)
  · split
    · exact h.more (Nat.le_succ _)
    · rename_i i w hb
      obtain ⟨hi, hk, hw⟩ := best_some hb
      have hwN : w ≤ N := by rw [← hw]; exact h.wear _ (at_mem hi)
      refine ⟨by simpa [opened] using h.len, ?_, ?_, ?_, by have := h.low; simp [opened], by have := h.next; simp [opened]; omega⟩
      · intro s hs
        rcases mem_set hs with rfl | hs
        · exact Nat.le_succ 1
        · exact h.kind s hs
      · intro s hs
        rcases mem_set hs with rfl | hs
        · show w + 1 ≤ N + 1; omega
        · exact Nat.le_succ_of_le (h.wear s hs)
      · intro s hs
        rcases mem_set hs with rfl | hs
        · exact h.next
        · exact Nat.le_succ_of_le (h.seq s hs)
theorem ok_seal {t : T} {N : Nat} (h : Ok t N) : Ok (sealT t).1 N := by
  unfold sealT
  split
  · exact h
  · rename_i i hc
    obtain ⟨hi, _⟩ := cur_some hc
    refine ⟨by simpa using h.len, ?_, ?_, ?_, h.low, h.next⟩ <;> intro s hs <;> rcases mem_set hs with rfl | hs
    · exact Nat.le_refl 2
    · exact h.kind s hs
    · exact h.wear (at_ t.rows i) (at_mem hi)
    · exact h.wear s hs
    · exact h.seq (at_ t.rows i) (at_mem hi)
    · exact h.seq s hs
theorem ok_rel {t : T} {N : Nat} (h : Ok t N) (seg : Int) : Ok (relT t seg).1 N := by
  unfold relT
  split
  · exact h
  · rename_i hr
    split
    · exact h
    · have hi : seg.toNat < t.rows.length := by omega
      refine ⟨by simpa using h.len, ?_, ?_, ?_, h.low, h.next⟩ <;> intro s hs <;> rcases mem_set hs with rfl | hs
      · exact Nat.zero_le _
      · exact h.kind s hs
      · exact h.wear (at_ t.rows seg.toNat) (at_mem hi)
      · exact h.wear s hs
      · exact Nat.zero_le _
      · exact h.seq s hs
theorem ok_act {t : T} {N : Nat} (h : Ok t N) (a : ActD) : Ok (doAct t a).1 (N + 1) := by
  unfold doAct
  split
  · exact ok_open h
  · exact (ok_seal h).more (Nat.le_succ _)
  · exact (ok_rel h _).more (Nat.le_succ _)
/-! ### which rows are loaded -/
/-! ### sums -/
theorem count_none {l : List Sg} (h : ∀ s ∈ l, s.kind ≠ 1) : l.countP (fun s => decide (s.kind = 1)) = 0 := by
  rw [List.countP_eq_zero]; intro s hs; simpa using h s hs
/-! ### numbers rise -/
end Go.TabM

end
section
namespace Go.Own
open Go.RowKit
section
variable {B : Nat} {w0 : World} {e : TypeId} {size n cap : Nat}
end

theorem flat_at {α : Type} (f : α → List Value) (c : Nat) : ∀ (L : List α), (∀ a ∈ L, (f a).length = c) → ∀ (k : Nat) (a : α), L[k]? = some a → ∀ j, j < c → (L.flatMap f)[k * c + j]? = (f a)[j]?
  | [], _, k, a, h, _, _ => by simp at h
  | x :: L, hl, 0, a, h, j, hj => by
    have h2 : x = a := by simpa using h
    subst h2
    have hx := hl x (List.mem_cons_self ..)
    rw [Nat.zero_mul, Nat.zero_add, List.flatMap_cons, List.getElem?_append_left (by omega)]
  | x :: L, hl, k + 1, a, h, j, hj => by
    have hx := hl x (List.mem_cons_self ..)
    rw [List.flatMap_cons, List.getElem?_append_right (by rw [hx, Nat.add_mul]; omega), hx, show (k + 1) * c + j - c = k * c + j by rw [Nat.add_mul]; omega]
    exact flat_at f c L (fun y hy => hl y (List.mem_cons_of_mem _ hy)) k a (by simpa using h) j hj
theorem flat_length {α : Type} (f : α → List Value) (c : Nat) : ∀ (L : List α), (∀ a ∈ L, (f a).length = c) → (L.flatMap f).length = L.length * c
  | [], _ => by simp
  | x :: L, hl => by
    rw [List.flatMap_cons, List.length_append, hl x (List.mem_cons_self ..), flat_length f c L (fun y hy => hl y (List.mem_cons_of_mem _ hy)), List.length_cons, Nat.add_mul, Nat.one_mul, Nat.add_comm]
theorem eqlNilIn {P : Program} (w : World) (d : Nat) (t e : TypeId) (a : Option Addr) (l c : Nat) (h : P.underlying t = some (.slice e)) : (Op.equalIn (d + 1) t (.slice a l c) (.slice none 0 0)).run P w = .ok a.isNone w := by
  cases a <;> simp [Op.equalIn, run_underlying h]
/-- a slice against nil -/
theorem eqlNil {P : Program} (w : World) (t e : TypeId) (a : Option Addr) (l c : Nat) (h : P.underlying t = some (.slice e)) : (binOp .eql t (.slice a l c) (.slice none 0 0)).run P w = .ok (.bool a.isNone) w := by
  have h2 : (Op.equal t (.slice a l c) (.slice none 0 0)).run P w = .ok a.isNone w := eqlNilIn w 9999 t e a l c h
  simp [binOp, h2]
/-- what the type of an element is like -/
structure Many (P : Program) (t e : TypeId) (size bytes : Nat) : Prop where
  slice : P.underlying t = some (.slice e)
  info : (P.info? e).map (fun i => (i.zero.map (·.cells.size), i.size, i.bytes)) = some (some size, size, bytes)
  pos : 0 < size
section
variable {P : Program} {B : Nat} {w0 w : World} {Ps : List Asn} {t e : TypeId} {size bytes : Nat}
/-- an empty slice literal -/
theorem St.emptyRow (H : St B w0 w Ps) (e : TypeId) (size : Nat) : St B w0 (w.alloc (.cells #[] e)) (ARow e size (.slice (some ⟨w.heap.size, 0, none⟩) 0 0) 0 [] :: Ps) :=
  H.new (S' := fun k => k = w.heap.size) (ARow e size _ 0 []) (Row.made w (#[] : Array Value) e size 0 (Nat.zero_le _) (by simp)) (((Step.refl (fun _ => False) w).alloc (.cells #[] e)).to (fun k hk => .inr (Nat.le_of_eq hk.symm)))
/-- append of several onto a row of one's own -/
theorem run_many_append (O : Many P t e size bytes) (H : St B w0 w Ps) (i : Nat) {v : Value} {n : Nat} {xs : List Value} (hi : Ps[i]? = some (ARow e size v n xs)) (ty : TypeId)
    (ao : Option Addr) (m c : Nat) (news : List Value) (hno : ao = none → m = 0 ∧ c = 0) (hl : news.length = m * size) (hc : ∀ a, ao = some a → ∀ j u, news[j]? = some u → w.cell? (a.add j) = some u) (h1 : ∀ u ∈ news, u.oneCell' = true) (b1 : n + m ≤ 1000000) (b2 : bytes ≤ 10000) :
    ∃ ao' cap' w', (Builtin.append_ #[t, t] ty #[v, .slice ao m c]).run P w = .ok (.slice ao' (n + m) cap') w' ∧ St B w0 w' (Ps.set i (ARow e size (.slice ao' (n + m) cap') (n + m) (xs ++ news))) := by
  obtain ⟨i0, hi0, hz⟩ := Option.map_eq_some_iff.1 O.info
  simp only [Prod.mk.injEq] at hz
  obtain ⟨hz0, hz1, hz2⟩ := hz
  obtain ⟨z, hz3, hz4⟩ := Option.map_eq_some_iff.1 hz0
  obtain ⟨S, hS, _, put⟩ := H.at i hi
  obtain ⟨v', w', T', hr, hrow, hst⟩ := run_append_row (P := P) w t ty e i0 z size bytes O.slice hi0 hz3 hz1 hz2 hz4 O.pos v n xs hS ao m c news hno hl hc h1 (by unfold maxLen; omega) (Nat.le_trans (Nat.mul_le_mul b1 b2) (by decide))
  obtain ⟨ao', cap', rfl, _⟩ := hrow.form
  exact ⟨ao', cap', w', hr, put T' w' (ARow e size (.slice ao' (n + m) cap') (n + m) (xs ++ news)) hrow hst⟩
theorem wpList_many_append {ops : Array Oper} {rest : List Oper} {o : Oper} {a : Act} {Q : Exit → Act → World → Prop} (O : Many P t e size bytes) (hgd : o.guard = none) (s x : Operand)
    (ho : o.op = .call { callee := .builtin .append, args := #[s, x], argTypes := #[t, t] }) (H : St B w0 w Ps) (i : Nat) {v : Value} {n : Nat} {xs : List Value} (hi : Ps[i]? = some (ARow e size v n xs)) (hs : a.eval s = v)
    (ao : Option Addr) (m c : Nat) (news : List Value) (hx : a.eval x = .slice ao m c) (hno : ao = none → m = 0 ∧ c = 0) (hl : news.length = m * size) (hc : ∀ a, ao = some a → ∀ j u, news[j]? = some u → w.cell? (a.add j) = some u) (h1 : ∀ u ∈ news, u.oneCell' = true) (b1 : n + m ≤ 1000000) (b2 : bytes ≤ 10000)
    (h : ∀ ao' cap' w', St B w0 w' (Ps.set i (ARow e size (.slice ao' (n + m) cap') (n + m) (xs ++ news))) → wpList P ops Q rest (a.put o.dst (.slice ao' (n + m) cap')) w') : wpList P ops Q (o :: rest) a w := by
  refine wpList_plain hgd fun K hK => ?_
  obtain ⟨ao', cap', w', hrun, h1⟩ := run_many_append O H i hi o.type ao m c news hno hl hc h1 b1 b2
  unfold Oper.wp
  simp [execOp, ho, resolve, invoke, builtin, hs, hx, hrun, Result.andThen]
  exact hK _ _ (h ao' cap' w' h1)
end
section
variable {P : Program} {t e : TypeId} {size bytes : Nat} {B : Nat} {w0 w : World} {Ps : List Asn}
end
/-- a new variable of many cells -/
theorem wpList_allocZ {P : Program} {ops : Array Oper} {rest : List Oper} {o : Oper} {a : Act} {w : World} {Q : Exit → Act → World → Prop} (hgd : o.guard = none) (ty : TypeId) (ho : o.op = .alloc ty) (z : Array Value) (hz : (P.info? ty).bind (·.zero) = some (.agg z))
    (h : wpList P ops Q rest (a.put o.dst (.pointer (some ⟨w.heap.size, 0, none⟩))) (w.alloc (.cells z ty))) : wpList P ops Q (o :: rest) a w := by
  refine wpList_plain hgd fun K hK => ?_
  obtain ⟨i, hi, hi2⟩ := Option.bind_eq_some_iff.1 hz
  unfold Oper.wp
  simp [execOp, ho, Instr.alloc, zeroValue, typeInfo, hi, hi2, Result.andThen]
  exact hK _ _ h
/-- a struct literal, its cells known -/
theorem wpList_built {P : Program} {ops : Array Oper} {rest : List Oper} {o : Oper} {a : Go.Act} {w : World} {Q : Exit → Go.Act → World → Prop} (hgd : o.guard = none) (t : TypeId) (parts : Array (Nat × Operand)) (ho : o.op = .build t parts) (cells : Array Value)
    (hf : P.built t (parts.map fun (i, x) => (i, a.eval x)).toList = some cells) (h : wpList P ops Q rest (a.put o.dst (.agg cells)) w) : wpList P ops Q (o :: rest) a w := by
  refine wpList_plain hgd fun K hK => ?_
  have := run_build w t (parts.map fun (i, x) => (i, a.eval x)) cells hf
  unfold Oper.wp
  simp [execOp, ho, this, Result.andThen]
  exact hK _ _ h
end Go.Own

end
section
namespace Go.Own
open Go.RowKit

section
variable {P : Program} {ops : Array Oper} {C : World → Prop}

/-- an operation waits for another, by way of others -/
inductive Reach (md : Region.Mode) (ops : Array Oper) : Oper → Nat → Prop
  | one {o : Oper} {e : Edge} {j : Nat} : e ∈ o.after → Region.binds md e = true → e.on = j → Reach md ops o j
  | step {o ok : Oper} {e : Edge} {j : Nat} : e ∈ o.after → Region.binds md e = true → ops[e.on]? = some ok → Reach md ops ok j → Reach md ops o j
theorem Reach.listed {md : Region.Mode} {ops : Array Oper} {listed : Array Bool} (hc : ∀ (j : Nat) (oj : Oper), ops[j]? = some oj → listed.getD j false = true → ∀ e ∈ oj.after, Region.binds md e = true → listed.getD e.on false = true) {o : Oper} {j : Nat} (h : Reach md ops o j) :
    (∀ e ∈ o.after, Region.binds md e = true → listed.getD e.on false = true) → listed.getD j false = true := by
  induction h with
  | one he hb hj => intro ha; rw [← hj]; exact ha _ he hb
  | step he hb hk _ ih => intro ha; exact ih (hc _ _ hk (ha _ he hb))

end
end Go.Own

end
section
namespace Go.Proofs.Ytepbdjgfaljbgaa
open Go.RowKit Go.Own
namespace Tab
open Go.TabM
abbrev ptr (p : Nat) : Value := .pointer (some ⟨p, 0, none⟩)
section
variable {B : Nat} {w0 w : World} {Ps : List Asn} {q : Nat} {v : Value} {t : T}
end
section
variable {B : Nat} {w0 w : World} {Ps : List Asn} {q : Nat} {v : Value} {t : T} {N : Nat}
end
end Tab
end Go.Proofs.Ytepbdjgfaljbgaa

end
section
namespace Go.Own
open Go.RowKit
/-- two results, the first a variable of many cells -/
theorem results_cell_two {P : Program} {fn : Func} {p q : Tmp} {ty : TypeId} (h : fn.results = #[.cell p ty, .tmp q]) (tmps : Array Value) (w : World) (g : Nat) (t : TypeId) (cs : Array Value) (fr : Nat × Nat) (d : TypeDesc) (v : Value)
    (hp : tmps.getD p undef = .pointer (some ⟨g, 0, none⟩)) (hq : tmps.getD q undef = v) (hg : w.heap[g]? = some (.cells cs t fr))
    (hu : P.underlying ty = some d) (hd : (match d with | .struct _ | .array _ _ => true | _ => false) = true) (hi : (P.info? ty).map (·.size) = some cs.size) :
    (results fn tmps).run P w = .ok (.tuple #[.agg cs, v]) w := by
  have hp' : tmps[p]?.getD undef = .pointer (some ⟨g, 0, none⟩) := by simpa using hp
  have hq' : tmps[q]?.getD undef = v := by simpa using hq
  simp [results, h, hp', hq', asAddr, run_loadVar_row w g t ty cs fr d hg hu hd hi]
end Go.Own

end
section
namespace Go.Proofs.Ytepbdjgfaljbgaa
open Go.RowKit Go.Own

namespace Cod

/-- the many lowest bytes of n, the least significant one first -/
def le (n : Nat) : Nat → List UInt8
  | 0 => []
  | k + 1 => le n k ++ [UInt8.ofNat (n / 2 ^ (8 * k))]
/-- a writer as plain data: its room, what was written, its first error -/
structure WS where
  room : Int
  xs : List UInt8
  err : Int

end Cod
end Go.Proofs.Ytepbdjgfaljbgaa

end
section
namespace Go.Proofs.Ytepbdjgfaljbgaa
open Go.RowKit Go.Own
namespace Cod

/-- a reader as plain data: the bytes that are left, its first error -/
structure RS where
  l : List UInt8
  err : Int

theorem View.take {w : World} {D : Nat → Prop} {ao : Option Addr} {l : List UInt8} (h : View w D ao l) (n : Nat) : View w D ao (l.take n) := by
  rcases h with rfl | ⟨b, o, e, hS, hb, hc⟩
  · exact .inl (by simp)
  · refine .inr ⟨b, o, e, hS, hb, fun j hj => ?_⟩
    rw [List.length_take] at hj
    rw [hc j (by omega)]
    simp [List.getD, show j < n by omega]

theorem View.drop {w : World} {D : Nat → Prop} {b o : Nat} {l : List UInt8} (h : View w D (some ⟨b, o, none⟩) l) (n : Nat) : View w D (some ⟨b, o + n, none⟩) (l.drop n) := by
  rcases h with rfl | ⟨b', o', e, hS, hb, hc⟩
  · exact .inl (by simp)
  · cases e
    refine .inr ⟨b, o + n, rfl, hS, hb, fun j hj => ?_⟩
    rw [List.length_drop] at hj
    have := hc (n + j) (by omega)
    rw [Nat.add_assoc, this]
    simp [List.getD]

end Cod
end Go.Proofs.Ytepbdjgfaljbgaa

end
section
namespace Go.Proofs.Ytepbdjgfaljbgaa
open Go.RowKit Go.Own
namespace Cod

/-- a slice of bytes of one's own -/
def AB (ao : Option Addr) (n cap : Nat) (l : List UInt8) : Asn := ARow 5 1 (.slice ao n cap) n (l.map byteV)

theorem AB.view {w : World} {S : Nat → Prop} {ao : Option Addr} {n cap : Nat} {l : List UInt8} (h : (AB ao n cap l).holds S w) : View w S ao l := Row.view h
theorem AB.len {w : World} {S : Nat → Prop} {ao : Option Addr} {n cap : Nat} {l : List UInt8} (h : (AB ao n cap l).holds S w) : l.length = n ∧ n ≤ cap ∧ cap ≤ maxLen := by
  obtain ⟨ao', cap', hv, h1, h2, _⟩ := Row.form h
  simp only [Value.slice.injEq, true_and] at hv
  obtain ⟨rfl, rfl⟩ := hv
  exact ⟨by have := h.own.1; simpa using this, h1, h2⟩

section
variable {B : Nat} {w0 w : World} {Ps : List Asn} {p : Nat} {s : WS} {r : RS}

end

end Cod
end Go.Proofs.Ytepbdjgfaljbgaa

end
section
namespace Go.Own
open Go.RowKit
/-- a slice that reads as these cells -/
def RdRow (w : World) (v : Value) (n : Nat) (xs : List Value) : Prop := ∃ ao cap, v = .slice ao n cap ∧ (n = 0 ∨ ∃ g, ao = some ⟨g, 0, none⟩ ∧ ∀ j u, xs[j]? = some u → w.cell? ⟨g, j, none⟩ = some u)
theorem cellLater' {W w : World} {a : Addr} {v : Value} (h : W.cell? a = some v) (hb : Below W.heap.size W w) : w.cell? a = some v := by
  have hlt : a.block < W.heap.size := by
    unfold World.cell? at h
    rcases Nat.lt_or_ge a.block W.heap.size with h1 | h1
    · exact h1
    · rw [Array.getElem?_eq_none h1] at h; simp at h
  unfold World.cell? at h ⊢
  rw [hb.block a.block hlt]
  exact h
theorem RdRow.later {W w : World} {v : Value} {n : Nat} {xs : List Value} (h : RdRow W v n xs) (hb : Below W.heap.size W w) : RdRow w v n xs := by
  obtain ⟨ao, cap, rfl, h⟩ := h
  refine ⟨ao, cap, rfl, ?_⟩
  rcases h with h | ⟨g, e, h⟩
  · exact .inl h
  · exact .inr ⟨g, e, fun j u hu => cellLater' (h j u hu) hb⟩
theorem rd_own {B : Nat} {w0 w : World} {Ps : List Asn} {e : TypeId} {size n : Nat} {v : Value} {xs : List Value} (H : St B w0 w Ps) (i : Nat) (hi : Ps[i]? = some (ARow e size v n xs)) : RdRow w v n xs := by
  obtain ⟨ao, cap, rfl⟩ := H.rowForm i hi
  refine ⟨ao, cap, rfl, ?_⟩
  cases ao with
  | none => exact .inl ((H.rowLen i hi).2.2.2 rfl).1
  | some a =>
    rcases Nat.eq_zero_or_pos n with h0 | hp
    · exact .inl h0
    · have hl := (H.rowLen i hi).1
      by_cases hs : size = 0
      · obtain ⟨S, hS, _⟩ := H.at i hi
        obtain ⟨ao', cap', hv, _, _, _, hg⟩ := Row.form hS
        simp only [Value.slice.injEq, true_and] at hv
        obtain ⟨rfl, rfl⟩ := hv
        obtain ⟨g, rfl, _⟩ := hg a rfl
        exact .inr ⟨g, rfl, fun j u hu => by have := (List.getElem?_eq_some_iff.1 hu).1; rw [hl, hs] at this; omega⟩
      · have hpos : 0 < n * size := Nat.mul_pos hp (Nat.pos_of_ne_zero hs)
        obtain ⟨g, hg, _⟩ := H.rowAt i hi 0 hpos
        cases hg
        refine .inr ⟨g, rfl, fun j u hu => ?_⟩
        have hj : j < n * size := by rw [← hl]; exact (List.getElem?_eq_some_iff.1 hu).1
        obtain ⟨g', hg', ⟨u', hu', hc⟩, _⟩ := H.rowAt i hi j hj
        cases hg'
        rw [hc, ← hu', hu]
end Go.Own
namespace Go.Proofs.Ytepbdjgfaljbgaa
open Go.RowKit Go.Own
namespace Tab
open Go.TabM
theorem part_int {t : TypeId} {k : IntKind} (ht : ∀ w, (isAgg t).run Try.prog w = .ok false w) (cs : Array Value) (i : Nat) (x : Int) (h : cs[i]? = some (.int k x)) (w : World) : (part t cs i).run Try.prog w = .ok (.int k x) w := by
  unfold part
  simp only [Sem.run_bind, ht, Result.andThen_ok, Bool.false_eq_true, if_false, h, Sem.run_pure]
end Tab
end Go.Proofs.Ytepbdjgfaljbgaa

end
section
namespace Go.Own
open Go.RowKit
/-- the rows' cells lie in block g from off on, with room for cap elements -/
structure WinAt (w : World) (size : Nat) (g off cap n : Nat) (xs : List Value) : Prop where
  len : xs.length = n * size
  block : ∃ cur t, w.heap[g]? = some (.cells cur t (0, 0)) ∧ off + cap * size ≤ cur.size ∧ ∀ j, j < n * size → cur[off + j]? = xs[j]?
  room : n ≤ cap ∧ cap ≤ maxLen
/-- nothing, or such a window -/
def AWin (size : Nat) (v : Value) (n : Nat) (xs : List Value) : Asn where
  holds S w := (v = .slice none 0 0 ∧ n = 0 ∧ xs = [] ∧ ∀ k, ¬ S k) ∨ ∃ g off cap, v = .slice (some ⟨g, off, none⟩) n cap ∧ WinAt w size g off cap n xs ∧ ∀ k, S k ↔ k = g
  keep h g hd := by
    rcases h with h | ⟨b, off, cap, hv, ⟨h1, ⟨cur, t, h2, h3, h4⟩, h5⟩, hS⟩
    · exact .inl h
    · exact .inr ⟨b, off, cap, hv, ⟨h1, ⟨cur, t, (g.block _ (lt_of_block h2) (hd _ ((hS _).2 rfl))).trans h2, h3, h4⟩, h5⟩, hS⟩
  lt h k hk := by
    rcases h with h | ⟨b, off, cap, hv, ⟨h1, ⟨cur, t, h2, h3, h4⟩, h5⟩, hS⟩
    · exact absurd hk (h.2.2.2 k)
    · rw [(hS k).1 hk]; exact lt_of_block h2
section
variable {B : Nat} {w0 w : World} {Ps : List Asn} {e : TypeId} {size n cap : Nat} {v : Value} {xs : List Value} {ao : Option Addr}
/-- a row of one's own is such -/
theorem Row.win {S : Nat → Prop} (h : Row w e size S v n xs) : (AWin size v n xs).holds S w := by
  rcases h.own.2 with ⟨rfl, rfl⟩ | ⟨g, cap, cur, rfl, _, hb, hnc, hcm, hcs, ht⟩
  · exact .inl ⟨rfl, rfl, List.eq_nil_of_length_eq_zero (by simpa using h.own.1), fun k hk => by have := (h.set k).1 hk; simp [Value.ownBlock] at this⟩
  · refine .inr ⟨g, 0, cap, rfl, ⟨h.own.1, ⟨cur, e, hb, by omega, fun j hj => ?_⟩, hnc, hcm⟩, fun k => by rw [h.set k]; simp [Value.ownBlock, eq_comm]⟩
    have := h.own.cellAt (g := g) j hj
    rw [← this, Nat.zero_add]
    simp [World.cell?, hb]
theorem St.winForm (H : St B w0 w Ps) (i : Nat) (hi : Ps[i]? = some (AWin size v n xs)) : ∃ ao cap, v = .slice ao n cap ∧ xs.length = n * size ∧ n ≤ cap ∧ cap ≤ maxLen ∧ (ao = none → n = 0 ∧ cap = 0) := by
  obtain ⟨S, hS, _⟩ := H.at i hi
  rcases hS with ⟨rfl, rfl, rfl, _⟩ | ⟨g, off, cap, rfl, h, _⟩
  · exact ⟨none, 0, rfl, by simp, Nat.le_refl _, Nat.zero_le _, fun _ => ⟨rfl, rfl⟩⟩
  · exact ⟨_, cap, rfl, h.len, h.room.1, h.room.2, fun h => by cases h⟩
/-- a cell of it -/
theorem St.winAt (H : St B w0 w Ps) (i : Nat) (hi : Ps[i]? = some (AWin size (.slice ao n cap) n xs)) (j : Nat) (hj : j < n * size) :
    ∃ g o, ao = some ⟨g, o, none⟩ ∧ (∃ u, xs[j]? = some u ∧ w.cell? ⟨g, o + j, none⟩ = some u) ∧ w.frozen? ⟨g, o + j, none⟩ = false := by
  obtain ⟨S, hS, _⟩ := H.at i hi
  rcases hS with ⟨_, rfl, _, _⟩ | ⟨g, off, cap', hv, h, _⟩
  · simp at hj
  · simp only [Value.slice.injEq, true_and] at hv
    obtain ⟨rfl, rfl⟩ := hv
    obtain ⟨cur, t, hb, hs, hc⟩ := h.block
    have hl := h.len
    refine ⟨g, off, rfl, ⟨xs[j]'(by omega), List.getElem?_eq_getElem (by omega), ?_⟩, frozen_of_block hb⟩
    refine cell_of_block hb ?_
    rw [hc j hj]
    exact List.getElem?_eq_getElem (by omega)
/-- its tail -/
theorem St.winTail (H : St B w0 w Ps) (i : Nat) {g o c k : Nat} (hi : Ps[i]? = some (AWin size (.slice (some ⟨g, o, none⟩) n c) n xs)) (hk : k ≤ n) :
    St B w0 w (Ps.set i (AWin size (.slice (some ⟨g, o + k * size, none⟩) (n - k) (c - k)) (n - k) (xs.drop (k * size)))) ∧ (k = c → St B w0 w (Ps.set i (AWin size (.slice (some ⟨g, o, none⟩) (n - k) (c - k)) (n - k) (xs.drop (k * size))))) := by
  obtain ⟨S, hS, _, put⟩ := H.at i hi
  rcases hS with ⟨h, _⟩ | ⟨g', off, cap', hv, h, hSS⟩
  · cases h
  · simp only [Value.slice.injEq, Option.some.injEq, Addr.mk.injEq, and_true, true_and] at hv
    obtain ⟨⟨rfl, rfl⟩, rfl⟩ := hv
    obtain ⟨cur, t, hb, hs, hc⟩ := h.block
    have hl := h.len
    have hr := h.room
    have hkc : k * size ≤ c * size := Nat.mul_le_mul_right _ (by omega)
    have hkn : k * size ≤ n * size := Nat.mul_le_mul_right _ hk
    have e1 : (xs.drop (k * size)).length = (n - k) * size := by rw [List.length_drop, hl, Nat.sub_mul]
    have e2 : (c - k) * size = c * size - k * size := Nat.sub_mul _ _ _
    have e3 : (n - k) * size = n * size - k * size := Nat.sub_mul _ _ _
    refine ⟨put S w _ (.inr ⟨g, o + k * size, c - k, rfl, ⟨e1, ⟨cur, t, hb, by omega, fun j hj => ?_⟩, by omega, by omega⟩, hSS⟩) (Step.refl S w), fun hkc' => ?_⟩
    · rw [List.getElem?_drop, Nat.add_assoc]
      exact hc _ (by omega)
    · subst hkc'
      have hn : n - k = 0 := by omega
      refine put S w _ (.inr ⟨g, o, k - k, rfl, ⟨e1, ⟨cur, t, hb, by simp; omega, fun j hj => by rw [hn] at hj; simp at hj⟩, by omega, by omega⟩, hSS⟩) (Step.refl S w)
theorem setCells_block {b : Nat} {ty : TypeId} : ∀ (r : List Value) (o : Nat) (w : World) (cur : Array Value), w.heap[b]? = some (.cells cur ty (0, 0)) → ∃ cur', (w.setCells b o r).heap[b]? = some (.cells cur' ty (0, 0)) ∧ cur'.size = cur.size ∧ (∀ j, j < o → cur'[j]? = cur[j]?) ∧ ∀ j, j < r.length → o + j < cur.size → cur'[o + j]? = r[j]?
  | [], o, w, cur, h => ⟨cur, h, rfl, fun _ _ => rfl, fun j hj => by simp at hj⟩
  | x :: r, o, w, cur, h => by
    have h1 := block_setCell (i := o) h x
    obtain ⟨cur', g1, g2, g3, g4⟩ := setCells_block r (o + 1) (w.setCell ⟨b, o, none⟩ x) _ h1
    refine ⟨cur', g1, by rw [g2]; simp, fun j hj => ?_, fun j hj hs => ?_⟩
    · rw [g3 j (by omega)]
      rw [Array.getElem?_setIfInBounds_ne (by omega)]
    · cases j with
      | zero =>
        rw [Nat.add_zero, g3 o (by omega), Array.getElem?_setIfInBounds_self]
        simp at hs
        simp [hs]
      | succ j =>
        have := g4 j (by simpa using hj) (by simp; omega)
        rw [show o + (j + 1) = o + 1 + j by omega, this]
        rfl
theorem step_setCells {S T : Nat → Prop} {g : Nat} (hg : S g) : ∀ (r : List Value) (o : Nat) (w w1 : World), Step S T w w1 → Step S T w (w1.setCells g o r)
  | [], _, _, _, h => h
  | x :: r, o, w, w1, h => step_setCells hg r (o + 1) w _ (h.setCell (a := ⟨g, o, none⟩) (Or.inl hg) x)
/-- append onto it -/
theorem run_append_win {P : Program} (t ty e : TypeId) (i : TypeInfo) (z : Value) (size bytes : Nat) (ht : P.underlying t = some (.slice e)) (hi : P.info? e = some i) (hz : i.zero = some z)
    (hsize : i.size = size) (hby : i.bytes = bytes) (hzs : z.cells.size = size) (hsz : 0 < size) (H : St B w0 w Ps) (k : Nat) (hk : Ps[k]? = some (AWin size v n xs))
    (a : Addr) (m c : Nat) (news : List Value) (hl : news.length = m * size) (hnews : ∀ j u, news[j]? = some u → w.cell? (a.add j) = some u) (h1 : ∀ u ∈ news, u.oneCell' = true)
    (h63 : n + m ≤ maxLen) (hbytes : (n + m) * bytes ≤ 140737488355328) :
    ∃ v' w', (Builtin.append_ #[t, t] ty #[v, .slice (some a) m c]).run P w = .ok v' w' ∧ St B w0 w' (Ps.set k (AWin size v' (n + m) (xs ++ news))) := by
  obtain ⟨S, hS, _, put⟩ := H.at k hk
  rcases hS with ⟨rfl, rfl, rfl, hSS⟩ | ⟨g, off, cap, rfl, h, hSS⟩
  · obtain ⟨v', w', hr, r1, r2, _⟩ := run_append_own (P := P) w w.heap.size t ty e i z size bytes ht hi hz hsize hby hzs hsz _ 0 [] (World.ownsRow_nil w _ e size) a m c news hl hnews h1 h63 hbytes (Nat.le_refl _)
    have hlt := r1.lt
    have hrow : Row w' e size (fun k => v'.ownBlock = some k) v' (0 + m) ([] ++ news) := by
      refine ⟨⟨r1.1, ?_⟩, fun _ => Iff.rfl⟩
      rcases r1.2 with h | ⟨g, cap, cur, h⟩
      · exact .inl h
      · exact .inr ⟨g, cap, cur, h.1, Nat.zero_le _, h.2.2⟩
    refine ⟨v', w', hr, put _ w' _ hrow.win ⟨r2.os, r2.tape, r2.output, r2.size, fun k hk _ => r2.block k hk (by simp [Value.ownBlock]), fun k hk => .inr (hlt k hk).1⟩⟩
  · obtain ⟨cur, t', hb, hs, hc⟩ := h.block
    have hlen := h.len
    by_cases hroom : n + m ≤ cap
    · have hnm : n * size + m * size ≤ cap * size := by rw [← Nat.add_mul]; exact Nat.mul_le_mul_right _ hroom
      have hthere : ∀ j, j < news.length → (w.cell? ⟨g, off + n * size + j, none⟩).isSome = true := by
        intro j hj
        have : off + n * size + j < cur.size := by omega
        rw [cell_of_block hb (Array.getElem?_eq_getElem this)]
        rfl
      have hr := run_append_room_cells (P := P) w t ty e i ht hi g off n cap a m c news (by rw [hsize]; exact hl) hnews h1 hroom (by rw [hsize]; exact hthere) (by intro j hj; exact frozen_of_block hb)
      rw [hsize] at hr
      refine ⟨_, _, hr, ?_⟩
      obtain ⟨cur', g1, g2, g3, g4⟩ := setCells_block (b := g) news (off + n * size) w cur hb
      refine put S _ _ (.inr ⟨g, off, cap, rfl, ⟨by rw [List.length_append, hlen, hl, Nat.add_mul], ⟨cur', t', g1, by rw [g2]; exact hs, fun j hj => ?_⟩, hroom, h.room.2⟩, hSS⟩) ?_
      · by_cases hjn : j < n * size
        · rw [g3 _ (by omega), hc j hjn, List.getElem?_append_left (by omega)]
        · rw [List.getElem?_append_right (by omega), hlen]
          have hj2 : j < n * size + m * size := by rw [← Nat.add_mul]; exact hj
          have := g4 (j - n * size) (by omega) (by omega)
          rw [← this]
          congr 1
          omega
      · exact step_setCells ((hSS g).2 rfl) news (off + n * size) w w (Step.refl S w)
    · obtain ⟨v', w', hr, r1, r2⟩ := run_append_arg_grows (P := P) w t ty e i z size bytes ht hi hz hsize hby hzs hsz ⟨g, off, none⟩ n cap xs hlen (fun j u hu => by
        have hj := (List.getElem?_eq_some_iff.1 hu).1
        rw [add_of]
        refine cell_of_block hb ?_
        rw [hc j (by omega), hu]) a m c news hl hnews (by omega) h63 hbytes
      have hlt := r1.lt
      have hrow : Row w' e size (fun k => v'.ownBlock = some k) v' (n + m) (xs ++ news) := by
        refine ⟨⟨r1.1, ?_⟩, fun _ => Iff.rfl⟩
        rcases r1.2 with h | ⟨g, cap, cur, h⟩
        · exact .inl h
        · exact .inr ⟨g, cap, cur, h.1, Nat.zero_le _, h.2.2⟩
      exact ⟨v', w', hr, put _ w' _ hrow.win ⟨r2.os, r2.tape, r2.output, r2.size, fun k hk _ => r2.block k hk (by simp), fun k hk => .inr (hlt k hk).1⟩⟩
/-- .. of several elements of many cells -/
theorem run_win_append {P : Program} {t : TypeId} {bytes : Nat} (O : Many P t e size bytes) (H : St B w0 w Ps) (k : Nat) (hk : Ps[k]? = some (AWin size v n xs)) (ty : TypeId)
    (a : Addr) (m c : Nat) (news : List Value) (hl : news.length = m * size) (hnews : ∀ j u, news[j]? = some u → w.cell? (a.add j) = some u) (h1 : ∀ u ∈ news, u.oneCell' = true) (b1 : n + m ≤ 1000000) (b2 : bytes ≤ 1000) :
    ∃ ao' cap' w', (Builtin.append_ #[t, t] ty #[v, .slice (some a) m c]).run P w = .ok (.slice ao' (n + m) cap') w' ∧ St B w0 w' (Ps.set k (AWin size (.slice ao' (n + m) cap') (n + m) (xs ++ news))) := by
  obtain ⟨i0, hi0, hz⟩ := Option.map_eq_some_iff.1 O.info
  simp only [Prod.mk.injEq] at hz
  obtain ⟨hz0, hz1, hz2⟩ := hz
  obtain ⟨z, hz3, hz4⟩ := Option.map_eq_some_iff.1 hz0
  obtain ⟨v', w', hr, h⟩ := run_append_win (P := P) t ty e i0 z size bytes O.slice hi0 hz3 hz1 hz2 hz4 O.pos H k hk a m c news hl hnews h1 (by unfold maxLen; omega) (Nat.le_trans (Nat.mul_le_mul b1 b2) (by decide))
  have hk2 : k < Ps.length := (List.getElem?_eq_some_iff.1 hk).1
  obtain ⟨ao', cap', rfl, _⟩ := h.winForm k (List.getElem?_set_self hk2)
  exact ⟨ao', cap', w', hr, h⟩
end
end Go.Own

end
section
namespace Go.Own
open Go.RowKit
section
variable {α : Type}
/-- an act in memory -/
def inE (enc : α → List Value) (Fit : α → Prop) : InT α := fun a _ _ cs => cs = enc a ∧ Fit a
/-- .. where the number of cells hangs on what fits -/
theorem acts_inF {enc : α → List Value} {Fit : α → Prop} {c : Nat} (hc : ∀ a, Fit a → (enc a).length = c) {l : List α} {B : Nat} {w : World} {ao : Option Addr} {n cap : Nat} (h : inSlice c (inE enc Fit) l B w [.slice ao n cap]) :
    n = l.length ∧ n ≤ cap ∧ cap ≤ maxLen ∧ (ao = none → cap = 0) ∧ (l ≠ [] → ∃ b o, ao = some ⟨b, o, none⟩ ∧ b < B ∧ ∀ w' : World, (∀ k, k < B → w'.heap[k]? = w.heap[k]?) → ∀ k (hk : k < l.length), w'.rangeAt b (o + k * c) (enc l[k]) ∧ Fit l[k]) := by
  obtain ⟨ao', cap', h1, h2, h3, h4, h5⟩ := h
  simp only [List.cons.injEq, Value.slice.injEq, and_true] at h1
  obtain ⟨rfl, rfl, rfl⟩ := h1
  refine ⟨rfl, h2, h3, h4, fun hne => ?_⟩
  rcases h5 with rfl | ⟨b, o, e, hb, hs, hcc⟩
  · exact absurd rfl hne
  · refine ⟨b, o, e, hb, fun w' hw' k hk => ?_⟩
    obtain ⟨cs', g1, g2, g3⟩ := hcc k hk
    obtain ⟨rfl, q6⟩ := g3
    refine ⟨fun j v hv => ?_, q6⟩
    have hj : j < c := by rw [← hc l[k] q6]; exact (List.getElem?_eq_some_iff.1 hv).1
    have := (World.cell?_of_block (w := w) (hw' b hb)).trans (g2 j hj)
    rw [Nat.add_assoc, this, hv]
/-- the first of them -/
theorem St.firsts {B : Nat} {w0 w : World} {As Bs : List Asn} (h : St B w0 w (As ++ Bs)) : St B w0 w As := by
  have h2 := (h.perm (List.perm_append_comm (l₁ := As) (l₂ := Bs))).drop Bs.length
  rwa [List.drop_left] at h2
end
end Go.Own

end
section
namespace Go.Proofs.Ytepbdjgfaljbgaa
open Go.RowKit Go.Own
namespace Que
open Go.QueM Byt
open Rec (keyC keyC_len eql_key zero_key load_key)
abbrev Bs := List UInt8
abbrev ptr (p : Nat) : Value := .pointer (some ⟨p, 0, none⟩)
abbrev errQ (n : Nat) : Value := .int .i64 (n : Int)
def wrC (w : Wr) : List Value := .int .u32 (w.addr : Int) :: .int .u64 (w.seq : Int) :: .bool w.trim :: keyC w.sum w.kn
def wrV (w : Wr) : Value := .agg (wrC w).toArray
theorem wrC_len (w : Wr) (h : w.sum.length = 32) : (wrC w).length = 36 := by unfold wrC; simp [keyC_len _ _ h]
theorem wrC_one (w : Wr) : ∀ u ∈ wrC w, u.oneCell' = true := by
  intro u hu
  unfold wrC keyC at hu
  simp only [List.mem_cons, List.mem_append, List.not_mem_nil, or_false] at hu
  rcases hu with rfl | rfl | rfl | h | rfl
  · rfl
  · rfl
  · rfl
  · exact byteV_one _ u h
  · rfl
theorem wrC_key (w : Wr) (j : Nat) (u : Value) (h : (keyC w.sum w.kn)[j]? = some u) : (wrC w)[3 + j]? = some u := by
  unfold wrC
  rw [Nat.add_comm]
  exact h
theorem info_wr (cs : List Value) (h : cs.length = 36) : (Try.prog.info? 38).map (·.size) = some cs.length := by
  have h0 : (Try.prog.info? 38).map (fun i => i.size) = some 36 := by kernel_rfl
  rw [h]; exact h0
theorem info_wrA (cs : List Value) (h : cs.length = 36) : (Try.prog.info? 38).map (·.size) = some cs.toArray.size := by rw [List.size_toArray]; exact info_wr cs h
theorem built_wr : Try.prog.built 38 [] = some (wrC zeroW).toArray := by kernel_rfl
theorem zero_wr : (Try.prog.info? 38).bind (·.zero) = some (.agg (wrC zeroW).toArray) := by kernel_rfl
/-- a write is loaded, whatever the guard -/
theorem load_wr (cs : List Value) (hl : cs.length = 36) {o : Oper} {x : Tmp} (ho : o.op = .load 38 (.tmp x)) {b k : Nat} (ρ : Operand → Value) {w : World} (hr : w.rangeAt b k cs) (h0 : ρ (.tmp x) = .pointer (some ⟨b, k, none⟩)) : (execOp ρ o).run Try.prog w = .ok (.value (.agg cs.toArray)) w := by
  have := run_loadAt_mid (P := Try.prog) w b k 38 cs _ hr Try.underlying38 rfl (info_wr cs hl)
  unfold execOp
  simp only [ho, h0, Sem.run_bind, this, Result.andThen_ok, Sem.run_pure]
theorem wr_fields : (Try.prog.fieldsOf 38).toList.map (fun f => (f.name, f.type, f.offset)) = [("Addr", 32, 0), ("Seq", 27, 1), ("Trim", 4, 2), ("Key", 36, 3)] := by kernel_rfl
theorem run_eq_keyS (d : Nat) (a : Bs) (x : Nat) (ha : a.length = 32) (w : World) : (Op.equalIn (d + 4) 36 (.agg (keyC a x).toArray) (.agg (keyC a x).toArray)).run Try.prog w = .ok true w := by
  have ht : Try.prog.underlying 36 = some (.struct (Try.prog.fieldsOf 36)) := by kernel_rfl
  have hp : Try.prog.stoodInHeld 36 = false := by kernel_rfl
  have h := run_equalIn_struct (P := Try.prog) w (d + 3) 36 (keyC a x).toArray (keyC a x).toArray ht hp
  rw [h]
  have hf := Rec.key_fields
  match hl : (Try.prog.fieldsOf 36).toList with
  | [] => rw [hl] at hf; simp at hf
  | [_] => rw [hl] at hf; simp at hf
  | _ :: _ :: _ :: _ => rw [hl] at hf; simp at hf
  | [f0, f1] =>
    rw [hl] at hf
    simp only [List.map_cons, List.map_nil, List.cons.injEq, Prod.mk.injEq, and_true] at hf
    obtain ⟨⟨n0, t0, o0⟩, n1, t1, o1⟩ := hf
    have hs := Rec.run_eq_sum (d + 1) a a ha ha w
    have hi := run_equalIn_int (P := Try.prog) w (d + 2) 32 .u32 .u32 (x : Int) (x : Int) Try.underlying32
    rw [decide_eq_true rfl] at hs
    simp only [Op.eqFields, n0, t0, o0, n1, t1, o1, ne_eq, String.reduceEq, not_false_eq_true, if_true, Sem.run_bind, Rec.part_sum a x ha, Result.andThen_ok]
    rw [hs]
    simp only [Result.andThen_ok, Bool.not_true, Bool.false_eq_true, if_false, Sem.run_bind, Rec.part_kn a x ha]
    rw [hi]
    simp
theorem part_bool (xs : Array Value) (k : Nat) (x : Bool) (h : xs[k]? = some (.bool x)) (w : World) : (part 4 xs k).run Try.prog w = .ok (.bool x) w := by
  have h1 : ∀ w, (isAgg 4).run Try.prog w = .ok false w := fun w => by kernel_rfl
  unfold part
  simp only [Sem.run_bind, h1, Result.andThen_ok, Bool.false_eq_true, if_false, h, Sem.run_pure]
theorem part_key (r : Wr) (hs : r.sum.length = 32) (w : World) : (part 36 (wrC r).toArray 3).run Try.prog w = .ok (.agg (keyC r.sum r.kn).toArray) w := by
  have h1 : ∀ w, (isAgg 36).run Try.prog w = .ok true w := fun w => by kernel_rfl
  have h2 : ∀ w, (sizeOf 36).run Try.prog w = .ok 33 w := fun w => by kernel_rfl
  have e : (wrC r).toArray.extract 3 (3 + 33) = (keyC r.sum r.kn).toArray := by
    rw [List.extract_toArray]
    congr 1
    rw [List.extract_eq_take_drop]
    show ((keyC r.sum r.kn).take (3 + 33 - 3)) = _
    rw [List.take_of_length_le (by rw [keyC_len _ _ hs]; omega)]
  unfold part
  simp only [Sem.run_bind, h1, h2, Result.andThen_ok, if_true, Sem.run_pure, e]
theorem run_eq_wr (r : Wr) (hs : r.sum.length = 32) (w : World) : (Op.equalIn 10000 38 (wrV r) (wrV r)).run Try.prog w = .ok true w := by
  have ht : Try.prog.underlying 38 = some (.struct (Try.prog.fieldsOf 38)) := by kernel_rfl
  have hp : Try.prog.stoodInHeld 38 = false := by kernel_rfl
  have h := run_equalIn_struct (P := Try.prog) w 9999 38 (wrC r).toArray (wrC r).toArray ht hp
  show (Op.equalIn 10000 _ (.agg (wrC r).toArray) (.agg (wrC r).toArray)).run _ _ = _
  rw [h]
  have hf := wr_fields
  match hl : (Try.prog.fieldsOf 38).toList with
  | [] => rw [hl] at hf; simp at hf
  | [_] => rw [hl] at hf; simp at hf
  | [_, _] => rw [hl] at hf; simp at hf
  | [_, _, _] => rw [hl] at hf; simp at hf
  | _ :: _ :: _ :: _ :: _ :: _ => rw [hl] at hf; simp at hf
  | [f0, f1, f2, f3] =>
    rw [hl] at hf
    simp only [List.map_cons, List.map_nil, List.cons.injEq, Prod.mk.injEq, and_true] at hf
    obtain ⟨⟨n0, t0, o0⟩, ⟨n1, t1, o1⟩, ⟨n2, t2, o2⟩, n3, t3, o3⟩ := hf
    have g0 : ∀ w, (isAgg 32).run Try.prog w = .ok false w := fun w => by kernel_rfl
    have g1 : ∀ w, (isAgg 27).run Try.prog w = .ok false w := fun w => by kernel_rfl
    have p0 := Tab.part_int g0 (wrC r).toArray 0 (r.addr : Int) rfl
    have p1 := Tab.part_int g1 (wrC r).toArray 1 (r.seq : Int) rfl
    have p2 := part_bool (wrC r).toArray 2 r.trim rfl
    have p3 := part_key r hs
    have e0 := run_equalIn_int (P := Try.prog) w 9998 32 .u32 .u32 (r.addr : Int) (r.addr : Int) Try.underlying32
    have e1 := run_equalIn_int (P := Try.prog) w 9998 27 .u64 .u64 (r.seq : Int) (r.seq : Int) Try.underlying27
    have e2 := run_equalIn_bool (P := Try.prog) w 9998 4 r.trim r.trim Try.underlying4
    have e3 := run_eq_keyS 9995 r.sum r.kn hs w
    simp [Op.eqFields, n0, t0, o0, n1, t1, o1, n2, t2, o2, n3, t3, o3, p0, p1, p2, p3, e0, e1, e2, e3]
theorem neq_wr {o : Oper} {x y : Tmp} (ho : o.op = .binOp .neq 38 (.tmp x) (.tmp y) 38) {cs : List Value} (r : Wr) (hc : cs = wrC r) (hs : r.sum.length = 32) (ρ : Operand → Value) (w : World)
    (h0 : ρ (.tmp x) = .agg cs.toArray) (h1 : ρ (.tmp y) = .agg cs.toArray) : (execOp ρ o).run Try.prog w = .ok (.value (.bool false)) w := by
  subst hc
  have h' := run_eq_wr r hs w
  have hm : Try.prog.eqGuardType Try.prog.depth 38 = false := by kernel_rfl
  have hg := run_eqGuard_agg (P := Try.prog) w .neq 38 (.tmp x) (.tmp y) (wrC r).toArray (wrC r).toArray hm
  have hb : (binOp .neq 38 (.agg (wrC r).toArray) (.agg (wrC r).toArray)).run Try.prog w = .ok (.bool false) w := by
    have hq : (Op.equal 38 (.agg (wrC r).toArray) (.agg (wrC r).toArray)).run Try.prog w = .ok true w := h'
    simp [binOp, hq]
  unfold execOp
  simp only [ho, h0, h1, Sem.run_bind, hg, Result.andThen_ok, hb, Sem.run_pure]
theorem eql_wr {o : Oper} {x y : Tmp} (ho : o.op = .binOp .eql 38 (.tmp x) (.tmp y) 38) {cs : List Value} (r : Wr) (hc : cs = wrC r) (hs : r.sum.length = 32) (ρ : Operand → Value) (w : World)
    (h0 : ρ (.tmp x) = .agg cs.toArray) (h1 : ρ (.tmp y) = .agg cs.toArray) : (execOp ρ o).run Try.prog w = .ok (.value (.bool true)) w := by
  subst hc
  have h' := run_eq_wr r hs w
  have hm : Try.prog.eqGuardType Try.prog.depth 38 = false := by kernel_rfl
  have hg := run_eqGuard_agg (P := Try.prog) w .eql 38 (.tmp x) (.tmp y) (wrC r).toArray (wrC r).toArray hm
  have hb : (binOp .eql 38 (.agg (wrC r).toArray) (.agg (wrC r).toArray)).run Try.prog w = .ok (.bool true) w := by
    have hq : (Op.equal 38 (.agg (wrC r).toArray) (.agg (wrC r).toArray)).run Try.prog w = .ok true w := h'
    simp [binOp, hq]
  unfold execOp
  simp only [ho, h0, h1, Sem.run_bind, hg, Result.andThen_ok, hb, Sem.run_pure]
set_option maxHeartbeats 1600000 in
/-- the document's Right -/
theorem rightR_any (r : Wr) (hs : r.sum.length = 32) (w : World) : Calls Try.prog 43 #[wrV r] w fun e w' => e = .returned (.bool (rightW r)) ∧ Below w.heap.size w w' := by
  obtain ⟨cs, hcs⟩ : ∃ cs, cs = wrC r := ⟨_, rfl⟩
  show Calls Try.prog _ #[.agg (wrC r).toArray] w _
  rw [← hcs]
  have hbox := (Own.St.start w).boxV 38 cs
  have cc : ∀ j v, cs[j]? = some v → (w.alloc (.cells cs.toArray 38)).cell? ⟨w.heap.size, j, none⟩ = some v := fun j v h => (hbox.cellV 0 rfl j h).1
  have c2 := cc 2 (.bool r.trim) (by rw [hcs]; rfl)
  have RK : Hid ((w.alloc (.cells cs.toArray 38)).rangeAt w.heap.size 3 (keyC r.sum r.kn)) := fun j v hv => cc (3 + j) v (by rw [hcs]; exact wrC_key r j v hv)
  have HB := Lib.hid hbox.below
  have KL := Lib.hid (keyC_len r.sum r.kn hs)
  have HS := Lib.hid hs
  obtain ⟨x, hx⟩ : ∃ x, x = rightW r := ⟨_, rfl⟩
  rw [← hx]
  unfold rightW at hx
  obtain ⟨tr, htr⟩ : ∃ t, t = r.trim := ⟨_, rfl⟩
  rw [← htr] at hx c2
  obtain ⟨ke, hke⟩ : ∃ b, (decide (r.sum = RecM.zsum) && decide (r.kn = 0)) = b := ⟨_, rfl⟩
  rw [hke] at hx
  have KE := Lib.hid hke
  clear hke cc hbox hcs htr
  have ht : True := trivial
  cases tr <;> cases ke
  all_goals
    simp only [Bool.not_true, Bool.not_false, Bool.true_or, Bool.false_or] at hx
    subst hx
    go_enter Try.func43, Try.ntmps43
    go_wp2_with (first
      | (refine wpList_val rfl (load_key _ KL.out rfl _ RK.out rfl) ?_)
      | (refine wpList_val rfl (zero_key rfl _ _) ?_)
      | (refine wpList_val rfl (eql_key rfl HS.out rfl KE.out _ _ rfl rfl) ?_))
    go_ret
    exact ⟨rfl, HB.out⟩
end Que
end Go.Proofs.Ytepbdjgfaljbgaa

end
section
namespace Go.Own
open Go.RowKit

def updL (L : Nat → Bool) (i : Nat) : Nat → Bool := fun j => if j = i then true else L j
section
variable {P : Program} {ops : Array Oper} {md : Region.Mode} {CL : (Nat → Bool) → World → Prop}
/-- what may be taken for granted when operation i comes up -/
structure Comes (ops : Array Oper) (md : Region.Mode) (i : Nat) (o : Oper) (L : Nat → Bool) : Prop where
  not : L i = false
  closed : ∀ (j : Nat) (oj : Oper), ops[j]? = some oj → L j = true → ∀ e ∈ oj.after, Region.binds md e = true → L e.on = true
  ready : ∀ e ∈ o.after, Region.binds md e = true → L e.on = true
inductive StepG (P : Program) (ops : Array Oper) (md : Region.Mode) (CL : (Nat → Bool) → World → Prop) (i : Nat) (o : Oper) (a : Act) : Act → Prop
  | skip (hw : Region.wanted o (yielded ops a.tmps) = false) (hq : ∀ L w, CL L w → Comes ops md i o L → CL (updL L i) w) : StepG P ops md CL i o a (a.put o.dst undef)
  | val (v : Value) (hw : Region.wanted o (yielded ops a.tmps) = true)
      (h : ∀ L a1 w, CL L w → Comes ops md i o L → (∀ t ∈ o.looksAt ops, a1.tmps.getD t undef = a.tmps.getD t undef) → ∀ (K : Act → World → Prop) (Q : Exit → Act → World → Prop), (∀ w', CL (updL L i) w' → K (a1.put o.dst v) w') → o.wp P a1 w K Q) : StepG P ops md CL i o a (a.put o.dst v)

structure InvG (md : Region.Mode) (ops : Array Oper) (CL : (Nat → Bool) → World → Prop) (a0 : Act) (S : Nat → Act) (listed : Array Bool) (a1 : Act) (w1 : World) : Prop where
  world : CL (fun j => listed.getD j false) w1
  defers : a1.defers = a0.defers
  size : a1.tmps.size = a0.tmps.size
  lsize : listed.size = ops.size
  closed : ∀ (j : Nat) (oj : Oper), ops[j]? = some oj → listed.getD j false = true → ∀ e ∈ oj.after, Region.binds md e = true → listed.getD e.on false = true
  done : ∀ (j : Nat) (oj : Oper) (d : Tmp), ops[j]? = some oj → listed.getD j false = true → oj.dst = some d → a1.tmps.getD d undef = (S (j + 1)).tmps.getD d undef
  rest : ∀ t, (∀ (j : Nat) (oj : Oper), ops[j]? = some oj → listed.getD j false = true → oj.dst ≠ some t) → a1.tmps.getD t undef = a0.tmps.getD t undef

theorem StepG.put {i : Nat} {o : Oper} {a a' : Act} (h : StepG P ops md CL i o a a') : ∃ v, a' = a.put o.dst v := by
  cases h with
  | skip => exact ⟨_, rfl⟩
  | val v => exact ⟨v, rfl⟩
theorem sizesG {a0 : Act} {S : Nat → Act} (hS0 : S 0 = a0) (hst : ∀ (k : Nat) (o : Oper), ops[k]? = some o → StepG P ops md CL k o (S k) (S (k + 1))) :
    ∀ k, k ≤ ops.size → (S k).tmps.size = a0.tmps.size ∧ (S k).defers = a0.defers
  | 0, _ => by rw [hS0]; exact ⟨rfl, rfl⟩
  | k + 1, hk => by
    have h := sizesG hS0 hst k (by omega)
    obtain ⟨v, g⟩ := (hst k ops[k] (Array.getElem?_eq_getElem (by omega))).put
    rw [g]
    exact ⟨(put_size _ _ _).trans h.1, (put_defers _ _ _).trans h.2⟩
theorem otherG {a0 : Act} {S : Nat → Act} (hS0 : S 0 = a0) (hst : ∀ (k : Nat) (o : Oper), ops[k]? = some o → StepG P ops md CL k o (S k) (S (k + 1)))
    (hin : ∀ (k : Nat) (o : Oper) (d : Tmp), ops[k]? = some o → o.dst = some d → d < a0.tmps.size) {t : Tmp} (m : Nat) :
    ∀ q, m + q ≤ ops.size → (∀ j oj, m ≤ j → j < m + q → ops[j]? = some oj → oj.dst ≠ some t) → (S (m + q)).tmps.getD t undef = (S m).tmps.getD t undef
  | 0, _, _ => rfl
  | q + 1, hq, hno => by
    have ih := otherG hS0 hst hin (t := t) m q (by omega) (fun j oj h1 h2 => hno j oj h1 (by omega))
    have hk : ops[m + q]? = some ops[m + q] := Array.getElem?_eq_getElem (by omega)
    have hs := sizesG hS0 hst (m + q) (by omega)
    obtain ⟨v, g⟩ := (hst (m + q) _ hk).put
    refine Eq.trans ?_ ih
    show (S (m + q + 1)).tmps.getD t undef = _
    rw [g]
    have hd := hno (m + q) _ (by omega) (by omega) hk
    cases hdd : (ops[m + q]).dst with
    | none => rfl
    | some d => rw [put_getD _ d t v (by rw [hs.1]; exact hin _ _ d hk hdd), if_neg (fun e => hd (by rw [hdd, e]))]

theorem wpAny_G {Q' : Exit → Act → World → Prop} {a0 : Act} {S : Nat → Act} (hS0 : S 0 = a0)
    (hst : ∀ (k : Nat) (o : Oper), ops[k]? = some o → StepG P ops md CL k o (S k) (S (k + 1)))
    (hin : ∀ (k : Nat) (o : Oper) (d : Tmp), ops[k]? = some o → o.dst = some d → d < a0.tmps.size)
    (hone : ∀ (j k : Nat) (x y : Oper) (d : Tmp), ops[j]? = some x → ops[k]? = some y → x.dst = some d → y.dst = some d → j = k)
    (hlex : ∀ (i : Nat) (oi : Oper), ops[i]? = some oi → (∀ e ∈ oi.after, Region.binds md e = true → e.on < i) ∧ ∀ j oj, i < j → ops[j]? = some oj → (∃ e ∈ oj.after, Region.binds md e = true ∧ e.on = i) ∨ oi.apart ops oj = true)
    (hfin : ∀ (a1 : Act) (w1 : World) (L : Nat → Bool), CL L w1 → (∀ i, i < ops.size → L i = true) → a1 = S ops.size → Q' .normal a1 w1) :
    ∀ (fuel : Nat) (listed : Array Bool) (a1 : Act) (w1 : World), (∃ s, (List.range ops.size).filter (fun i => !listed.getD i true) = s ∧ s.length = fuel) → InvG md ops CL a0 S listed a1 w1 → wpAny P md ops Q' fuel listed a1 w1 := by
  have hready : ∀ listed : Array Bool, listed.size = ops.size → Region.ready md ops listed = [] → ∀ i, i < ops.size → listed.getD i true = true := by
    intro listed hls hr i
    induction i using Nat.strongRecOn with
    | _ i ih =>
      intro hi
      rcases hb : listed.getD i true with _ | _
      · exfalso
        have : i ∈ Region.ready md ops listed := by
          refine mem_ready.2 ⟨hb, ops[i], Array.getElem?_eq_getElem hi, fun e he hbd => ?_⟩
          have h1 := (hlex i _ (Array.getElem?_eq_getElem hi)).1 e he hbd
          have h2 := ih e.on h1 (by omega)
          have h3 : e.on < listed.size := by omega
          simpa [h3] using h2
        rw [hr] at this
        cases this
      · rfl
  have hend : ∀ (fuel : Nat) (listed : Array Bool) (a1 : Act) (w1 : World), InvG md ops CL a0 S listed a1 w1 → (∀ i, i < ops.size → listed.getD i true = true) → wpAny P md ops Q' fuel listed a1 w1 := by
    intro fuel listed a1 w1 hI hall
    have hsz := sizesG hS0 hst ops.size (Nat.le_refl _)
    have hallf : ∀ i, i < ops.size → listed.getD i false = true := by
      intro i hi
      have h1 := hall i hi
      have h2 : i < listed.size := by rw [hI.lsize]; exact hi
      simpa [h2] using h1
    have hnr : Region.ready md ops listed = [] := by
      apply List.eq_nil_iff_forall_not_mem.2
      intro i hi
      obtain ⟨h0, o, ho, _⟩ := mem_ready.1 hi
      have := hall i (Array.getElem?_eq_some_iff.1 ho).1
      rw [this] at h0; cases h0
    refine wpAny_done hnr (hfin a1 w1 _ hI.world hallf ?_) fuel
    have hslot : ∀ t, a1.tmps.getD t undef = (S ops.size).tmps.getD t undef := by
      intro t
      by_cases hw : ∃ (j : Nat) (oj : Oper), ops[j]? = some oj ∧ oj.dst = some t
      · obtain ⟨j, oj, hj, hd⟩ := hw
        have hjl := (Array.getElem?_eq_some_iff.1 hj).1
        have h1 := hI.done j oj t hj (hallf j hjl) hd
        have h2 := otherG hS0 hst hin (t := t) (j + 1) (ops.size - (j + 1)) (by omega) (fun i oi h1 h2 hi hdi => by
          have := hone i j oi oj t hi hj hdi hd; omega)
        rw [show j + 1 + (ops.size - (j + 1)) = ops.size by omega] at h2
        exact h1.trans h2.symm
      · have h1 := hI.rest t (fun j oj hj hl hd => hw ⟨j, oj, hj, hd⟩)
        have h2 := otherG hS0 hst hin (t := t) 0 ops.size (by omega) (fun j oj _ h2 hj hd => hw ⟨j, oj, hj, hd⟩)
        rw [Nat.zero_add, hS0] at h2
        exact h1.trans h2.symm
    have hts : a1.tmps = (S ops.size).tmps := by
      apply Array.ext
      · rw [hI.size, hsz.1]
      · intro i h1 h2
        have := hslot i
        simpa [Array.getD, h1, h2] using this
    have hds : a1.defers = (S ops.size).defers := hI.defers.trans hsz.2.symm
    cases a1
    cases hS : S ops.size
    rw [hS] at hts hds
    simp only at hts hds
    subst hts hds
    rfl
  intro fuel
  induction fuel with
  | zero =>
    rintro listed a1 w1 ⟨s, hs, hlen⟩ hI
    refine hend 0 listed a1 w1 hI (fun i hi => ?_)
    have hnil : s = [] := List.eq_nil_of_length_eq_zero hlen
    subst hnil
    have := List.filter_eq_nil_iff.1 hs i (List.mem_range.2 (by omega))
    simpa using this
  | succ fuel ih =>
    rintro listed a1 w1 ⟨s, hs, hlen⟩ hI
    by_cases hdone : ∀ i, i < ops.size → listed.getD i true = true
    · exact hend (fuel + 1) listed a1 w1 hI hdone
    refine ⟨fun h0 => absurd (fun i hi => hready listed hI.lsize h0 i (by omega)) hdone, fun i hi => ?_⟩
    obtain ⟨hun, oi, hoi, hall⟩ := mem_ready.1 hi
    have hil := (Array.getElem?_eq_some_iff.1 hoi).1
    have hill : i < listed.size := by rw [hI.lsize]; exact hil
    have hunf : listed.getD i false = false := by simpa [hill] using hun
    have hcount : ∃ s', (List.range ops.size).filter (fun j => !(listed.setIfInBounds i true).getD j true) = s' ∧ s'.length = fuel := by
      refine ⟨_, rfl, ?_⟩
      have hn : (List.range ops.size).Nodup := List.nodup_range
      have e : (List.range ops.size).filter (fun j => !(listed.setIfInBounds i true).getD j true) = ((List.range ops.size).filter fun j => !listed.getD j true).erase i := by
        rw [List.Nodup.erase_eq_filter (List.Pairwise.filter _ hn), List.filter_filter]
        apply List.filter_congr
        intro j hj
        by_cases hji : j = i
        · subst hji; simp [hill]
        · rw [getD_set_ne true (Ne.symm hji)]; simp [hji]
      rw [e, List.length_erase_of_mem (List.mem_filter.2 ⟨List.mem_range.2 hil, by simp only [hun]; rfl⟩), hs, hlen]
      rfl
    have hlook : ∀ t ∈ oi.looksAt ops, a1.tmps.getD t undef = (S i).tmps.getD t undef := by
      intro t ht
      have hback : (∀ (j : Nat) (oj : Oper), ops[j]? = some oj → oj.dst = some t → i ≤ j) → (∀ (j : Nat) (oj : Oper), ops[j]? = some oj → oj.dst = some t → listed.getD j false = false) → a1.tmps.getD t undef = (S i).tmps.getD t undef := by
        intro h1 h2
        have h3 := otherG hS0 hst hin (t := t) 0 i (by omega) (fun j oj _ hj ho hd => by have := h1 j oj ho hd; omega)
        rw [Nat.zero_add, hS0] at h3
        refine Eq.trans (hI.rest t (fun j oj hj hl hd => ?_)) h3.symm
        rw [h2 j oj hj hd] at hl; cases hl
      by_cases hw : ∃ (j : Nat) (oj : Oper), ops[j]? = some oj ∧ oj.dst = some t
      · obtain ⟨j, oj, hj, hd⟩ := hw
        have huniq : ∀ (j' : Nat) (oj' : Oper), ops[j']? = some oj' → oj'.dst = some t → j' = j := fun j' oj' h1 h2 => hone j' j oj' oj t h1 hj h2 hd
        rcases Nat.lt_trichotomy j i with hji | hji | hji
        · rcases (hlex j oj hj).2 i oi hji hoi with ⟨e, he, hb, heq⟩ | hap
          · have hl : listed.getD j false = true := by rw [← heq]; exact hall e he hb
            have h1 := hI.done j oj t hj hl hd
            have h2 := otherG hS0 hst hin (t := t) (j + 1) (i - (j + 1)) (by omega) (fun j' oj' h1 _ h3 h4 => by have := huniq j' oj' h3 h4; omega)
            rw [show j + 1 + (i - (j + 1)) = i by omega] at h2
            exact h1.trans h2.symm
          · exact absurd ht ((Oper.apart_spec hap).1 t hd)
        · subst hji
          refine hback (fun j' oj' h1 h2 => by have := huniq j' oj' h1 h2; omega) (fun j' oj' h1 h2 => by rw [huniq j' oj' h1 h2]; exact hunf)
        · rcases (hlex i oi hoi).2 j oj hji hj with ⟨e, he, hb, heq⟩ | hap
          · refine hback (fun j' oj' h1 h2 => by have := huniq j' oj' h1 h2; omega) (fun j' oj' h1 h2 => ?_)
            rw [huniq j' oj' h1 h2]
            rcases hlj : listed.getD j false with _ | _
            · rfl
            · have := hI.closed j oj hj hlj e he hb
              rw [heq, hunf] at this; cases this
          · exact absurd ht ((Oper.apart_spec hap).2.2 t hd)
      · exact hback (fun j oj h1 h2 => absurd ⟨j, oj, h1, h2⟩ hw) (fun j oj h1 h2 => absurd ⟨j, oj, h1, h2⟩ hw)
    have hsz := sizesG hS0 hst i (by omega)
    have hsame : a1.tmps.size = (S i).tmps.size := hI.size.trans hsz.1.symm
    have hupd : (fun j => (listed.setIfInBounds i true).getD j false) = updL (fun j => listed.getD j false) i := by
      funext j
      unfold updL
      by_cases hji : j = i
      · subst hji; simp [hill]
      · rw [getD_set_ne false (Ne.symm hji), if_neg hji]
    have hcomes : Comes ops md i oi (fun j => listed.getD j false) := ⟨hunf, hI.closed, hall⟩
    have hnext : ∀ (v : Value) (w' : World), S (i + 1) = (S i).put oi.dst v → CL (updL (fun j => listed.getD j false) i) w' → InvG md ops CL a0 S (listed.setIfInBounds i true) (a1.put oi.dst v) w' := by
      intro v w' hv hb
      have hget : ∀ t, oi.dst ≠ some t → (a1.put oi.dst v).tmps.getD t undef = a1.tmps.getD t undef := by
        intro t ht
        cases hd : oi.dst with
        | none => rfl
        | some d => rw [put_getD a1 d t v (by rw [hI.size]; exact hin i oi d hoi hd), if_neg (fun e => ht (by rw [hd, e]))]
      have hlist : ∀ j, (listed.setIfInBounds i true).getD j false = true → j = i ∨ listed.getD j false = true := by
        intro j hj
        by_cases hji : j = i
        · exact .inl hji
        · rw [getD_set_ne false (Ne.symm hji)] at hj; exact .inr hj
      refine ⟨by rw [hupd]; exact hb, (put_defers _ _ _).trans hI.defers, (put_size _ _ _).trans hI.size, by simpa using hI.lsize, fun j oj hj hl e he hbd => ?_, fun j oj d hj hl hd => ?_, fun t ht => ?_⟩
      · rcases hlist j hl with rfl | hl
        · obtain rfl : oj = oi := by rw [hoi] at hj; simpa using hj.symm
          exact getD_set_true (hall e he hbd)
        · exact getD_set_true (hI.closed j oj hj hl e he hbd)
      · rcases hlist j hl with rfl | hl
        · obtain rfl : oj = oi := by rw [hoi] at hj; simpa using hj.symm
          rw [hv, hd, put_getD a1 d d v (by rw [hI.size]; exact hin j oj d hj hd), if_pos rfl, put_getD (S j) d d v (by rw [hsz.1]; exact hin j oj d hj hd), if_pos rfl]
        · have hne : oi.dst ≠ some d := by
            intro h
            have := hone i j oi oj d hoi hj h hd
            subst this
            rw [hunf] at hl; cases hl
          rw [hget d hne]
          exact hI.done j oj d hj hl hd
      · have hne : oi.dst ≠ some t := ht i oi hoi (by simp [hill])
        rw [hget t hne]
        exact hI.rest t (fun j oj hj hl => ht j oj hj (getD_set_true hl))
    have hwl : Region.wanted oi (yielded ops a1.tmps) = Region.wanted oi (yielded ops (S i).tmps) :=
      wanted_looks (I := []) (w := w1) (by unfold guardKnown; split; rfl; split <;> rfl) hsame (fun t ht => hlook t ht)
    have hstep := hst i oi hoi
    unfold wpOp
    simp only [hoi]
    generalize hSj : S (i + 1) = sj at *
    cases hstep with
    | skip hw hq =>
      rw [hwl, hw]
      simp only [Bool.false_eq_true, if_false]
      exact ih _ _ _ hcount (hnext undef w1 rfl (hq _ _ hI.world hcomes))
    | val v hw h =>
      rw [hwl, hw]
      simp only [if_true]
      exact .inl (h _ a1 w1 hI.world hcomes hlook _ _ (fun w' hu => ih _ _ _ hcount (hnext v w' rfl hu)))
end

/-! ### how far the chain is -/
/-- so many of the chain have been: what the world is like -/
def CLp (C : Nat → World → Prop) (E : List Nat) (L : Nat → Bool) (w : World) : Prop := C (E.filter L).length w
/-- x is y, or waits for it, some by way of others -/
def waitsGB (ops : Array Oper) : Nat → Nat → Nat → Bool
  | 0, x, y => x == y
  | f + 1, x, y => x == y || match ops[x]? with
    | some o => o.after.any fun e => Region.binds .any e && waitsGB ops f e.on y
    | none => false
theorem waitsGB_sound {ops : Array Oper} {L : Nat → Bool} (hcl : ∀ (j : Nat) (oj : Oper), ops[j]? = some oj → L j = true → ∀ e ∈ oj.after, Region.binds .any e = true → L e.on = true) :
    ∀ (f x y : Nat), waitsGB ops f x y = true → L x = true → L y = true
  | 0, x, y, h, hx => by
    have : x = y := by simpa [waitsGB] using h
    rw [← this]; exact hx
  | f + 1, x, y, h, hx => by
    unfold waitsGB at h
    rw [Bool.or_eq_true] at h
    rcases h with h | h
    · have : x = y := by simpa using h
      rw [← this]; exact hx
    · split at h
      · rename_i o ho
        obtain ⟨e, he, hb⟩ := Array.any_eq_true'.1 h
        rw [Bool.and_eq_true] at hb
        exact waitsGB_sound hcl f e.on y hb.2 (hcl x o ho hx e he hb.1)
      · cases h
/-- each of the chain waits for the one ahead of it -/
def chainB (ops : Array Oper) (E : List Nat) : Bool := decide E.Nodup && E.all (· < ops.size) && (List.range (E.length - 1)).all fun j => match ops[E.getD (j + 1) 0]? with
  | some o => o.after.any fun e => Region.binds .any e && waitsGB ops 12 e.on (E.getD j 0)
  | none => false
section
variable {P : Program} {ops : Array Oper} {C : Nat → World → Prop} {E : List Nat}
theorem chain_edge (hch : chainB ops E = true) (j : Nat) (hj : j + 1 < E.length) : ∃ o, ops[E.getD (j + 1) 0]? = some o ∧ ∃ e ∈ o.after, Region.binds .any e = true ∧ waitsGB ops 12 e.on (E.getD j 0) = true := by
  unfold chainB at hch
  simp only [Bool.and_eq_true] at hch
  have h := List.all_eq_true.1 hch.2 j (List.mem_range.2 (by omega))
  split at h
  · rename_i o ho
    obtain ⟨e, he, hb⟩ := Array.any_eq_true'.1 h
    rw [Bool.and_eq_true] at hb
    exact ⟨o, ho, e, he, hb.1, hb.2⟩
  · cases h
theorem chain_nodup (hch : chainB ops E = true) : E.Nodup := by
  unfold chainB at hch
  simp only [Bool.and_eq_true, decide_eq_true_eq] at hch
  exact hch.1.1
theorem chain_lt (hch : chainB ops E = true) : ∀ i ∈ E, i < ops.size := by
  unfold chainB at hch
  simp only [Bool.and_eq_true] at hch
  intro i hi
  simpa using List.all_eq_true.1 hch.1.2 i hi
theorem chain_down (hch : chainB ops E = true) {L : Nat → Bool} (hcl : ∀ (j : Nat) (oj : Oper), ops[j]? = some oj → L j = true → ∀ e ∈ oj.after, Region.binds .any e = true → L e.on = true) (j : Nat) :
    ∀ d, j + d < E.length → L (E.getD (j + d) 0) = true → L (E.getD j 0) = true
  | 0, _, h => h
  | d + 1, hl, h => by
    obtain ⟨o, ho, e, he, hb, heq⟩ := chain_edge hch (j + d) (by omega)
    have := waitsGB_sound hcl 12 _ _ heq (hcl _ o ho h e he hb)
    exact chain_down hch hcl j d (by omega) this
theorem filter_upd_not {L : Nat → Bool} {k : Nat} (hk : E.contains k = false) : E.filter (updL L k) = E.filter L := by
  apply List.filter_congr
  intro x hx
  unfold updL
  rw [if_neg]
  rintro rfl
  have : E.contains x = true := by simpa using hx
  rw [hk] at this
  cases this
theorem getD_of {j k : Nat} (h : E[j]? = some k) : E.getD j 0 = k := by rw [List.getD_eq_getElem?_getD, h]; rfl
theorem chain_phase (hch : chainB ops E = true) {L : Nat → Bool} {j k : Nat} {o : Oper} (hj : E[j]? = some k) (ho : ops[k]? = some o) (hc : Comes ops .any k o L) :
    (E.filter L).length = j ∧ (E.filter (updL L k)).length = j + 1 := by
  have hjl := (List.getElem?_eq_some_iff.1 hj).1
  have hk := getD_of hj
  have hbef : ∀ i, i < j → L (E.getD i 0) = true := by
    intro i hi
    obtain ⟨o', ho', e, he, hb, heq⟩ := chain_edge hch (j - 1) (by omega)
    rw [show j - 1 + 1 = j by omega, hk, ho] at ho'
    cases ho'
    have h1 := waitsGB_sound hc.closed 12 _ _ heq (hc.ready e he hb)
    have h2 := chain_down hch hc.closed i (j - 1 - i) (by omega)
    rw [show i + (j - 1 - i) = j - 1 by omega] at h2
    exact h2 h1
  have haft : ∀ i, j ≤ i → i < E.length → L (E.getD i 0) = false := by
    intro i hi hl
    rcases hb : L (E.getD i 0) with _ | _
    · rfl
    · have h2 := chain_down hch hc.closed j (i - j) (by omega)
      rw [show j + (i - j) = i by omega] at h2
      have := h2 hb
      rw [hk, hc.not] at this
      cases this
  have hmem : ∀ (l : List Nat) (x : Nat), x ∈ l → ∃ i, i < l.length ∧ l.getD i 0 = x := by
    intro l x hx
    obtain ⟨i, hi, rfl⟩ := List.mem_iff_getElem.1 hx
    exact ⟨i, hi, by rw [List.getD_eq_getElem?_getD, List.getElem?_eq_getElem hi]; rfl⟩
  have e1 : E.filter L = E.take j := by
    conv => lhs; rw [← List.take_append_drop j E]
    rw [List.filter_append, List.filter_eq_self.2, List.filter_eq_nil_iff.2, List.append_nil]
    · intro x hx
      obtain ⟨i, hi, rfl⟩ := hmem _ x hx
      rw [List.length_drop] at hi
      have : (E.drop j).getD i 0 = E.getD (j + i) 0 := by rw [List.getD_eq_getElem?_getD, List.getD_eq_getElem?_getD, List.getElem?_drop]
      rw [this, haft (j + i) (by omega) (by omega)]
      simp
    · intro x hx
      obtain ⟨i, hi, rfl⟩ := hmem _ x hx
      rw [List.length_take] at hi
      have : (E.take j).getD i 0 = E.getD i 0 := by rw [List.getD_eq_getElem?_getD, List.getD_eq_getElem?_getD, List.getElem?_take_of_lt (by omega)]
      rw [this]
      exact hbef i (by omega)
  refine ⟨by rw [e1, List.length_take]; omega, ?_⟩
  have e2 : E.filter (updL L k) = E.take (j + 1) := by
    conv => lhs; rw [← List.take_append_drop (j + 1) E]
    rw [List.filter_append, List.filter_eq_self.2, List.filter_eq_nil_iff.2, List.append_nil]
    · intro x hx
      obtain ⟨i, hi, rfl⟩ := hmem _ x hx
      rw [List.length_drop] at hi
      have : (E.drop (j + 1)).getD i 0 = E.getD (j + 1 + i) 0 := by rw [List.getD_eq_getElem?_getD, List.getD_eq_getElem?_getD, List.getElem?_drop]
      rw [this]
      unfold updL
      rw [if_neg, haft (j + 1 + i) (by omega) (by omega)]
      · simp
      · intro e
        have hn := chain_nodup hch
        rw [List.getD_eq_getElem?_getD, List.getElem?_eq_getElem (by omega)] at e
        have h1 : E[j + 1 + i]? = E[j]? := by rw [hj, List.getElem?_eq_getElem (by omega)]; simpa using e
        have := (List.getElem?_inj (by omega) hn).1 h1
        omega
    · intro x hx
      obtain ⟨i, hi, rfl⟩ := hmem _ x hx
      rw [List.length_take] at hi
      have : (E.take (j + 1)).getD i 0 = E.getD i 0 := by rw [List.getD_eq_getElem?_getD, List.getD_eq_getElem?_getD, List.getElem?_take_of_lt (by omega)]
      rw [this]
      unfold updL
      by_cases hij : i = j
      · rw [hij, hk, if_pos rfl]
      · split
        · rfl
        · exact hbef i (by omega)
  rw [e2, List.length_take]
  omega

/-! ### the walk -/
def wpGA (P : Program) (ops : Array Oper) (C : Nat → World → Prop) (E : List Nat) (Q : Act → World → Prop) : Nat → List Oper → Act → Prop
  | _, [], a => ∀ w, C E.length w → Q a w
  | k, o :: rest, a => ∃ a', StepG P ops .any (CLp C E) k o a a' ∧ wpGA P ops C E Q (k + 1) rest a'
theorem wpGA_path {Q : Act → World → Prop} : ∀ (l : List Oper) (k : Nat) (a : Act), wpGA P ops C E Q k l a →
    ∃ S : Nat → Act, S 0 = a ∧ (∀ i o, l[i]? = some o → StepG P ops .any (CLp C E) (k + i) o (S i) (S (i + 1))) ∧ ∀ w, C E.length w → Q (S l.length) w
  | [], k, a, h => ⟨fun _ => a, rfl, fun i o hi => by simp at hi, h⟩
  | o :: rest, k, a, ⟨a', h1, h2⟩ => by
    obtain ⟨S, g0, g1, g2⟩ := wpGA_path rest (k + 1) a' h2
    refine ⟨fun i => match i with | 0 => a | i + 1 => S i, rfl, fun i o' hi => ?_, fun w hw => g2 w hw⟩
    cases i with
    | zero =>
      obtain rfl : o = o' := by simpa using hi
      show StepG P ops .any (CLp C E) (k + 0) o a (S 0)
      rw [g0]; exact h1
    | succ i =>
      have := g1 i o' (by simpa using hi)
      rw [show k + (i + 1) = k + 1 + i by omega]
      exact this
/-- THE REGION -/
theorem wp_region_G {id : Nat} {Q : Exit → Act → World → Prop} {a : Act} {w : World} {l : List Oper} (hm : P.follows .mixedOrders = true) (hB : Region.lexB .any l.toArray = true) (hD : dstsB l a.tmps.size = true) (hch : chainB l.toArray E = true)
    (hC : C 0 { w with drawn := w.drawn + 1 }) (h : wpGA P l.toArray C E (fun a' w' => Q .normal a' w') 0 l a) : (Code.region id l.toArray true).wp P Q a w := by
  obtain ⟨S, hS0, hst, hfin⟩ := wpGA_path l 0 a h
  have hB' : Region.lexFrom .any l.toArray l.toArray.size 0 (Array.replicate l.toArray.size false) = true := by
    simp only [Region.lexB, Bool.and_eq_true] at hB; exact hB.2
  have hf : ∀ j, (Array.replicate l.toArray.size false).getD j false = true → False := by
    intro j hl
    by_cases hi : j < l.length <;> simp [hi] at hl
  refine wp_region_any hm ?_
  refine wpAny_G (P := P) (ops := l.toArray) (CL := CLp C E) (md := .any) (a0 := a) (S := S) hS0 (fun k o hk => by have := hst k o (by simpa using hk); rw [Nat.zero_add] at this; exact this)
    (fun k o d hk hd => dsts_lt hD (k := k) (by simpa using hk) hd) (fun j k x y d hj hk hx hy => dsts_one hD (j := j) (k := k) (by simpa using hj) (by simpa using hk) hx hy)
    (fun i oi hi => lexFrom_free _ 0 _ hB' (by simp) (fun i => ?_) (by simp) i oi (Nat.zero_le _) hi) (fun a1 w1 L hcl hall ha => ?_) _ _ _ _ ⟨_, rfl, ?_⟩ ⟨?_, rfl, rfl, by simp, fun j oj hj hl => (hf j hl).elim, fun j oj d hj hl => (hf j hl).elim, fun t _ => rfl⟩
  · by_cases hi : i < l.length
    · simp [hi]
    · simp [hi]; omega
  · have e : E.filter L = E := List.filter_eq_self.2 (fun x hx => hall x (chain_lt hch x hx))
    unfold CLp at hcl
    rw [e] at hcl
    have := hfin w1 hcl
    rw [ha]
    simpa using this
  · rw [count_none]; simp
  · unfold CLp
    have e : E.filter (fun j => (Array.replicate l.toArray.size false).getD j false) = [] := List.filter_eq_nil_iff.2 (fun x _ h => hf x h)
    rw [e]
    exact hC

variable {Q : Act → World → Prop} {o : Oper} {rest : List Oper} {k : Nat} {fs : List Value} {ds : List Deferred}
/-- the walk over a list -/
def wpG (P : Program) (ops : Array Oper) (C : Nat → World → Prop) (E : List Nat) (Q : Act → World → Prop) (ds : List Deferred) (k : Nat) (l : List Oper) (fs : List Value) : Prop := wpGA P ops C E Q k l (mkA fs ds)
theorem wp_chain_list {id : Nat} {Q : Exit → Act → World → Prop} {w : World} {l : List Oper} {fs : List Value} {ds : List Deferred} (E : List Nat) (C : Nat → World → Prop) (hm : P.follows .mixedOrders = true) (hB : Region.lexB .any l.toArray = true) (hD : dstsB l fs.length = true) (hch : chainB l.toArray E = true)
    (hC : C 0 { w with drawn := w.drawn + 1 }) (h : wpG P l.toArray C E (fun a' w' => Q .normal a' w') ds 0 l fs) : (Code.region id l.toArray true).wp P Q ⟨fs.toArray, ds⟩ w :=
  wp_region_G hm hB (by simpa using hD) hch hC h
theorem wpG_run (v : Value) (hE : E.contains k = false) (hs : notSelect o = true) (hw : wantedL ops fs o = true) (hrun : ∀ j w, C j w → (execOp (ev fs) o).run P w = .ok (.value v) w) (c : wpG P ops C E Q ds (k + 1) rest (setL fs o.dst v)) : wpG P ops C E Q ds k (o :: rest) fs :=
  ⟨_, .val v (wantedL_eq.trans hw) (fun L a1 w hC _ ht K Q' hK => by
    have e : execOp a1.eval o = execOp (mkA fs ds).eval o := execOp_congr o (fun cs b h => by simp [notSelect, h] at hs) fun x hx => eval_looks ht x hx
    unfold Oper.wp
    rw [e, mkA_evalF, hrun _ w hC]
    exact hK _ (by unfold CLp at *; rw [filter_upd_not hE]; exact hC)), by rw [mkA_put]; exact c⟩
theorem wpG_run1 {x : Operand} (vx v : Value) (hE : E.contains k = false) (hx : ev fs x = vx) (hs : notSelect o = true) (hw : wantedL ops fs o = true) (hrun : ∀ j w (ρ : Operand → Value), C j w → ρ x = vx → (∀ c, ρ (.const c) = c) → (execOp ρ o).run P w = .ok (.value v) w) (c : wpG P ops C E Q ds (k + 1) rest (setL fs o.dst v)) : wpG P ops C E Q ds k (o :: rest) fs :=
  wpG_run v hE hs hw (fun j w hC => hrun j w _ hC hx fun _ => rfl) c
theorem wpG_move {x : Operand} (v : Value) (ho : o.op = .move x) (hE : E.contains k = false) (hv : ev fs x = v) (hw : wantedL ops fs o = true) (c : wpG P ops C E Q ds (k + 1) rest (setL fs o.dst v)) : wpG P ops C E Q ds k (o :: rest) fs :=
  wpG_run v hE (by simp [notSelect, ho]) hw (fun j w _ => by simp only [execOp, ho, hv]; rfl) c
theorem wpG_end (h : ∀ w, C E.length w → Q ⟨fs.toArray, ds⟩ w) : wpG P ops C E Q ds k [] fs := h
end
end Go.Own

end
section
namespace Go.Own
open Go.RowKit
section
variable {P : Program} {ops : Array Oper} {E : List Nat} {C : Nat → World → Prop} {Q : Act → World → Prop} {ds : List Deferred} {k : Nat} {o : Oper} {rest : List Oper} {fs : List Value}
/-- the m-th of the chain waits for operation k -/
def aheadB (ops : Array Oper) (E : List Nat) (k m : Nat) : Bool := decide (m < E.length) && waitsGB ops 30 (E.getD m 0) k
theorem chain_most (hch : chainB ops E = true) {L : Nat → Bool} {m k : Nat} {o : Oper} (hb : aheadB ops E k m = true) (hc : Comes ops .any k o L) : (E.filter L).length ≤ m := by
  unfold aheadB at hb
  simp only [Bool.and_eq_true, decide_eq_true_eq] at hb
  obtain ⟨hm, hb⟩ := hb
  have hno : ∀ i, m ≤ i → i < E.length → L (E.getD i 0) = false := by
    intro i hi hil
    by_cases h : L (E.getD i 0) = true
    · have h2 := chain_down hch hc.closed m (i - m) (by omega) (by rw [show m + (i - m) = i by omega]; exact h)
      have h3 := waitsGB_sound hc.closed 30 _ _ hb h2
      rw [hc.not] at h3
      cases h3
    · simpa using h
  have e2 : E.filter L = (E.take m).filter L ++ (E.drop m).filter L := by
    conv => lhs; rw [← List.take_append_drop m E]
    rw [List.filter_append]
  have e1 : (E.drop m).filter L = [] := by
    apply List.filter_eq_nil_iff.2
    intro x hx
    obtain ⟨i, hi, rfl⟩ := List.mem_iff_getElem.1 hx
    rw [List.length_drop] at hi
    have := hno (m + i) (by omega) (by omega)
    rw [List.getD_eq_getElem?_getD, List.getElem?_eq_getElem (by omega)] at this
    rw [List.getElem_drop]
    simpa using this
  rw [e2, e1, List.append_nil]
  exact Nat.le_trans (List.length_filter_le _ _) (by rw [List.length_take]; omega)
/-- a read ahead of the m-th of the chain -/
theorem wpG_runU (m : Nat) (v : Value) (hch : chainB ops E = true) (hb : aheadB ops E k m = true) (hE : E.contains k = false) (hs : notSelect o = true) (hw : wantedL ops fs o = true) (hrun : ∀ j w, j ≤ m → C j w → (execOp (ev fs) o).run P w = .ok (.value v) w) (c : wpG P ops C E Q ds (k + 1) rest (setL fs o.dst v)) : wpG P ops C E Q ds k (o :: rest) fs :=
  ⟨_, .val v (wantedL_eq.trans hw) (fun L a1 w hC hcm ht K Q' hK => by
    have e : execOp a1.eval o = execOp (mkA fs ds).eval o := execOp_congr o (fun cs b h => by simp [notSelect, h] at hs) fun x hx => eval_looks ht x hx
    unfold Oper.wp
    rw [e, mkA_evalF, hrun _ w (chain_most hch hb hcm) hC]
    exact hK _ (by unfold CLp at *; rw [filter_upd_not hE]; exact hC)), by rw [mkA_put]; exact c⟩
theorem wpG_runU1 {x : Operand} (m : Nat) (vx v : Value) (hch : chainB ops E = true) (hb : aheadB ops E k m = true) (hE : E.contains k = false) (hx : ev fs x = vx) (hs : notSelect o = true) (hw : wantedL ops fs o = true) (hrun : ∀ j w (ρ : Operand → Value), j ≤ m → C j w → ρ x = vx → (∀ c, ρ (.const c) = c) → (execOp ρ o).run P w = .ok (.value v) w) (c : wpG P ops C E Q ds (k + 1) rest (setL fs o.dst v)) : wpG P ops C E Q ds k (o :: rest) fs :=
  wpG_runU m v hch hb hE hs hw (fun j w hj hC => hrun j w _ hj hC hx fun _ => rfl) c
/-- what an operation leaves in its slot -/
def leaves (v : Value) (n : Next) : Prop := n = .value v ∨ (n = .skip ∧ v = undef)
/-- operation number j of the chain -/
theorem wpG_op (j : Nat) (v : Value) (n : Next) (hn : leaves v n) (hch : chainB ops E = true) (hk : ops[k]? = some o) (hj : E[j]? = some k) (hs : notSelect o = true) (hw : wantedL ops fs o = true)
    (hrun : ∀ w, C j w → ∃ w', (execOp (ev fs) o).run P w = .ok n w' ∧ C (j + 1) w') (c : wpG P ops C E Q ds (k + 1) rest (setL fs o.dst v)) : wpG P ops C E Q ds k (o :: rest) fs :=
  ⟨_, .val v (wantedL_eq.trans hw) (fun L a1 w hC hcm ht K Q' hK => by
    have e : execOp a1.eval o = execOp (mkA fs ds).eval o := execOp_congr o (fun cs b h => by simp [notSelect, h] at hs) fun x hx => eval_looks ht x hx
    obtain ⟨p1, p2⟩ := chain_phase hch hj hk hcm
    unfold CLp at hC
    rw [p1] at hC
    obtain ⟨w', hr, hC'⟩ := hrun w hC
    unfold Oper.wp
    rw [e, mkA_evalF, hr]
    have hfin := hK w' (by unfold CLp; rw [p2]; exact hC')
    rcases hn with rfl | ⟨rfl, rfl⟩
    · exact hfin
    · exact hfin), by rw [mkA_put]; exact c⟩
end
end Go.Own

end
section
namespace Go.Own
open Go.RowKit
/-- a slice literal of one element of many cells, out of the same for cells that are known to be there -/
theorem run_slot_one {P : Program} {t e : TypeId} {c : Nat} (hu : P.underlying t = some (.slice e)) (hslot : ∀ f : Nat → Value, P.builtSlice e 1 [(0, .agg ((List.range c).map f).toArray)] = some ((List.range c).map f).toArray) (cs : List Value) (hl : cs.length = c) (w : World) :
    (Instr.buildSlice t 1 #[(0, .agg cs.toArray)]).run P w = .ok (.slice (some ⟨w.heap.size, 0, none⟩) 1 1) (w.alloc (.cells cs.toArray e)) := by
  have hrm : (List.range c).map (fun i => cs.getD i undef) = cs := by
    apply List.ext_getElem
    · simp [hl]
    · intro i h1 h2
      simp [List.getD, h2]
  have h : P.builtSlice e 1 [(0, .agg cs.toArray)] = some cs.toArray := by
    have h := hslot (fun i => cs.getD i undef)
    rw [hrm] at h
    exact h
  unfold Program.builtSlice at h
  cases hie : P.info? e with
  | none => simp [hie] at h
  | some ie =>
    simp only [hie] at h
    cases hz : ie.zero with
    | none => simp [hz] at h
    | some z =>
      simp only [hz] at h
      by_cases hc : 1 * ie.size > 2 ^ 24 ∨ 1 * ie.size = 0
      · simp only [Nat.one_mul] at hc
        simp at h
        omega
      · rw [if_neg hc] at h
        have h1 : ¬ (1 * ie.size > 2 ^ 24) := fun h' => hc (Or.inl h')
        have h2 : ¬ (1 * ie.size = 0) := fun h' => hc (Or.inr h')
        simp only [Nat.one_mul] at h1 h2 h
        simp [Instr.buildSlice, run_underlying hu, sizeOf, typeInfo, zeroValue, hie, hz, newRow, h1, h2, h]
/-- .. in a walk -/
theorem wpList_slot_one {P : Program} {ops : Array Oper} {rest : List Oper} {o : Oper} {a : Act} {w : World} {Q : Exit → Act → World → Prop} (hgd : o.guard = none) (t : TypeId) (x : Operand) (ho : o.op = .buildSlice t 1 #[(0, x)]) (cs : List Value) (e : TypeId) (hx : a.eval x = .agg cs.toArray)
    (hrun : (Instr.buildSlice t 1 #[(0, .agg cs.toArray)]).run P w = .ok (.slice (some ⟨w.heap.size, 0, none⟩) 1 1) (w.alloc (.cells cs.toArray e)))
    (h : wpList P ops Q rest (a.put o.dst (.slice (some ⟨w.heap.size, 0, none⟩) 1 1)) (w.alloc (.cells cs.toArray e))) : wpList P ops Q (o :: rest) a w := by
  refine wpList_plain hgd fun K hK => ?_
  unfold Oper.wp
  simp [execOp, ho, hx, hrun, Result.andThen]
  exact hK _ _ h
/-- a slice literal of one element, an append, a store, as operations of a chain -/
theorem slot_E {P : Program} {o : Oper} {x : Tmp} {t e : TypeId} (ho : o.op = .buildSlice t 1 #[(0, .tmp x)]) {cs : List Value} {ρ : Operand → Value} {w : World} (h0 : ρ (.tmp x) = .agg cs.toArray)
    (hrun : (Instr.buildSlice t 1 #[(0, .agg cs.toArray)]).run P w = .ok (.slice (some ⟨w.heap.size, 0, none⟩) 1 1) (w.alloc (.cells cs.toArray e))) : (execOp ρ o).run P w = .ok (.value (.slice (some ⟨w.heap.size, 0, none⟩) 1 1)) (w.alloc (.cells cs.toArray e)) := by
  unfold execOp
  simp [ho, h0, hrun]
theorem append_E {P : Program} {o : Oper} {s x : Tmp} {t1 t2 : TypeId} (ho : o.op = .call { callee := .builtin .append, args := #[.tmp s, .tmp x], argTypes := #[t1, t2] }) {ρ : Operand → Value} {w w' : World} {v vs vx : Value} (h0 : ρ (.tmp s) = vs) (h1 : ρ (.tmp x) = vx) (hrun : (Builtin.append_ #[t1, t2] o.type #[vs, vx]).run P w = .ok v w') : (execOp ρ o).run P w = .ok (.value v) w' := by
  unfold execOp
  simp [ho, h0, h1, resolve, invoke, builtin, hrun, Result.andThen]
theorem storeAt_E {P : Program} {o : Oper} {x y : Tmp} {t : TypeId} (ho : o.op = .store t (.tmp x) (.tmp y)) {ρ : Operand → Value} {w w' : World} {a v : Value} (h0 : ρ (.tmp x) = a) (h1 : ρ (.tmp y) = v) (hrun : (Instr.storeAt t a v).run P w = .ok () w') : (execOp ρ o).run P w = .ok .skip w' := by
  unfold execOp
  simp [ho, h0, h1, hrun, Result.andThen]
end Go.Own

end
section
namespace Go.Proofs.Ytepbdjgfaljbgaa
open Go.RowKit Go.Own
namespace Que
open Go.QueM Byt
abbrev WRow (v : Value) (L : List Wr) : Asn := AWin 36 v L.length (L.flatMap wrC)
abbrev queC (v : Value) (q : Q) : List Value := [v, .int .u64 (q.next : Int)]
/-- the document's queue at p, its writes at v -/
def ARefQ (p : Nat) (v : Value) (q : Q) : Asn := AJoin [AVals p 30 (queC v q), WRow v q.L]
theorem wrs_len (L : List Wr) (h : ∀ r ∈ L, Fits r) : ∀ r ∈ L, (wrC r).length = 36 := fun r hr => wrC_len r (h r hr).sum
theorem slot_wr (f : Nat → Value) : Try.prog.builtSlice 38 1 [(0, .agg ((List.range 36).map f).toArray)] = some ((List.range 36).map f).toArray := by kernel_rfl
theorem many_wr : Many Try.prog 28 38 36 56 := ⟨Try.underlying28, by kernel_rfl, by decide⟩
section
variable {B : Nat} {w0 w : World} {Ps : List Asn} {p : Nat} {v : Value} {q : Q} {N : Nat}
theorem ref_open (h : Own.St B w0 w (ARefQ p v q :: Ps)) : Own.St B w0 w (AVals p 30 (queC v q) :: WRow v q.L :: Ps) := h.openJ
theorem ref_close (h : Own.St B w0 w (AVals p 30 (queC v q) :: WRow v q.L :: Ps)) : Own.St B w0 w (ARefQ p v q :: Ps) := Own.St.closeJ (Qs := [_, _]) h
/-- the cells of the i-th write of a row -/
theorem win_range {L : List Wr} (hf : ∀ r ∈ L, Fits r) (H : Own.St B w0 w Ps) (i : Nat) {ao : Option Addr} {n c : Nat} (hi : Ps[i]? = some (AWin 36 (.slice ao n c) n (L.flatMap wrC))) (hn : n = L.length) (j : Nat) (hj : j < n) : ∃ g o, ao = some ⟨g, o, none⟩ ∧ w.rangeAt g (o + j * 36) (wrC (at_ L j)) := by
  subst hn
  obtain ⟨g, o, hg, _, _⟩ := H.winAt i hi (j * 36) (by omega)
  refine ⟨g, o, hg, fun k u hu => ?_⟩
  have hjl := at_get hj
  have hk : k < 36 := by rw [← wrC_len (at_ L j) (hf _ (at_mem hj)).sum]; exact (List.getElem?_eq_some_iff.1 hu).1
  obtain ⟨g', o', hg', ⟨u', h1, h2⟩, _⟩ := H.winAt i hi (j * 36 + k) (by omega)
  rw [hg] at hg'
  cases hg'
  rw [flat_at wrC 36 L (wrs_len L hf) j _ hjl k hk, hu] at h1
  cases h1
  rw [Nat.add_assoc]
  exact h2
set_option maxRecDepth 10000 in
set_option maxHeartbeats 3200000 in
theorem pushR_any (H : Own.St B w0 w (ARefQ p v q :: Ps)) (ok : Ok q N) (hN : N ≤ 10000) (r : Wr) (f : Fits r) :
    Calls Try.prog 17 #[ptr p, wrV r] w fun e w' => e = .returned (.tuple #[.int .u64 (pushN q r : Int), errQ (pushE q r)]) ∧ ∃ v', Own.St B w0 w' (ARefQ p v' (push q r) :: Ps) := by
  obtain ⟨cs, hcs⟩ : ∃ cs, cs = wrC r := ⟨_, rfl⟩
  show Calls Try.prog _ #[ptr p, .agg (wrC r).toArray] w _
  rw [← hcs]
  have h0 := ref_open H
  obtain ⟨ao, cap, rfl, _⟩ := h0.winForm 1 rfl
  obtain ⟨n, hn⟩ : ∃ n, n = q.L.length := ⟨_, rfl⟩
  obtain ⟨xs, hxs⟩ : ∃ xs, xs = q.L.flatMap wrC := ⟨_, rfl⟩
  obtain ⟨nx, hnx⟩ : ∃ n, n = q.next := ⟨_, rfl⟩
  have hbox := h0.boxV 38 cs
  obtain ⟨b, hb⟩ : ∃ b, b = w.heap.size := ⟨_, rfl⟩
  obtain ⟨w1, hw1⟩ : ∃ w1, w1 = w.alloc (.cells cs.toArray 38) := ⟨_, rfl⟩
  rw [← hb, ← hw1] at hbox
  have hbox2 : Own.St B w0 w1 [AVals b 38 cs, AVals p 30 [.slice ao n cap, .int .u64 (nx : Int)], AWin 36 (.slice ao n cap) n xs] ∨ True := .inr trivial
  have hb2 : Own.St B w0 w1 (AVals b 38 cs :: AVals p 30 [.slice ao n cap, .int .u64 (nx : Int)] :: AWin 36 (.slice ao n cap) n xs :: Ps) := by rw [hn, hnx, hxs]; exact hbox
  have NL : Hid (cs.length = 36) := by show cs.length = 36; rw [hcs]; exact wrC_len r f.sum
  have RN : Hid (w1.rangeAt b 0 cs) := fun j u hu => by rw [Nat.zero_add]; exact (hb2.cellV 0 rfl j hu).1
  have CR : Hid (Calls Try.prog 43 #[.agg cs.toArray] w1 fun e w' => e = .returned (.bool (rightW r)) ∧ Below w1.heap.size w1 w') := by
    rw [hcs]
    exact rightR_any r f.sum w1
  have H1 := Lib.hid hb2
  have HW1 := Lib.hid hw1
  have HB := Lib.hid hb
  have hnb : nx < 18446744073709551616 := by rw [hnx]; exact ok.next
  have hnl : n ≤ 10000 := by rw [hn]; exact Nat.le_trans ok.len hN
  obtain ⟨rt, hrt⟩ : ∃ b, b = rightW r := ⟨_, rfl⟩
  rw [← hrt] at CR
  have HCS := Lib.hid hcs
  obtain ⟨E, hE⟩ : ∃ E, E = pushE q r := ⟨_, rfl⟩
  obtain ⟨M, hM⟩ : ∃ M, M = pushN q r := ⟨_, rfl⟩
  obtain ⟨X, hX⟩ : ∃ X, X = push q r := ⟨_, rfl⟩
  rw [← hE, ← hM, ← hX]
  unfold pushN at hM
  unfold push at hX
  rw [← hE] at hM hX
  unfold pushE at hE
  rw [← hrt, ← hnx] at hE
  have C1 : Hid (∀ wx, Below w1.heap.size w1 wx → wx.cell? ⟨p, 1, none⟩ = some (.int .u64 (nx : Int))) := fun wx hwx => ((hb2.later hwx).cellV 1 rfl 1 rfl).1
  have HHX := Lib.hid hX
  have HHM := Lib.hid hM
  have HHQ : Hid (q.L.length = n ∧ q.L.flatMap wrC = xs ∧ q.next = nx) := ⟨hn.symm, hxs.symm, hnx.symm⟩
  clear hcs h0 hbox hbox2 hb hw1 hb2 hrt hX hM H ok f hn hxs hnx
  by_cases hbad : rt = false ∨ nx = 18446744073709551615
  · have hE1 : E = 1 := by
      rw [hE]
      rcases hbad with h | h
      · rw [h]; rfl
      · rw [h]; simp
    subst hE1
    have HX : Hid (X = q) := by show X = q; rw [HHX.out, if_neg (by decide)]
    have HM : Hid (M = 0) := by show M = 0; rw [HHM.out, if_neg (by decide)]
    have nb : rt = true → nx = 18446744073709551615 := fun h => by rcases hbad with h' | h'; rw [h] at h'; cases h'; exact h'
    clear hE HHX HHM hbad
    cases rt
    · go_enter Try.func17, Try.ntmps17
      go_wp2_with (refine wpList_val rfl (load_wr cs NL.out rfl _ (b := b) (k := 0) (by rw [← HW1.out]; exact RN.out) (by rw [HB.out]; rfl)) ?_)
      rw [← HW1.out]
      refine CR.out.mono ?_
      clear CR
      rintro e w2 ⟨rfl, h2⟩
      have H2 := Lib.hid ((H1.out.later h2).drop 1)
      clear h2
      go_wp2_with (fail)
      go_ret2
      refine ⟨by rw [HM.out]; rfl, .slice ao n cap, ?_⟩
      rw [HX.out]
      have h := H2.out
      rw [← HHQ.out.1, ← HHQ.out.2.1, ← HHQ.out.2.2] at h
      rw [← HHQ.out.1]
      exact ref_close h
    · obtain rfl := nb rfl
      go_enter Try.func17, Try.ntmps17
      go_wp2_with (refine wpList_val rfl (load_wr cs NL.out rfl _ (b := b) (k := 0) (by rw [← HW1.out]; exact RN.out) (by rw [HB.out]; rfl)) ?_)
      rw [← HW1.out]
      refine CR.out.mono ?_
      clear CR
      rintro e w2 ⟨rfl, h2⟩
      have d1 := C1.out w2 h2
      have H2 := Lib.hid ((H1.out.later h2).drop 1)
      clear h2
      go_wp2_with (fail)
      go_ret2
      refine ⟨by rw [HM.out]; rfl, .slice ao n cap, ?_⟩
      rw [HX.out]
      have h := H2.out
      rw [← HHQ.out.1, ← HHQ.out.2.1, ← HHQ.out.2.2] at h
      rw [← HHQ.out.1]
      exact ref_close h
  · obtain ⟨hr, hne⟩ : rt = true ∧ nx ≠ 18446744073709551615 := ⟨by cases rt <;> simp at hbad ⊢, fun h => hbad (.inr h)⟩
    subst hr
    have hE0 : E = 0 := by rw [hE]; simp [hne]
    subst hE0
    have HX : Hid (X = ⟨q.L ++ [put r q.next], q.next + 1⟩) := by show X = _; rw [HHX.out, if_pos rfl]
    have HM : Hid (M = nx) := by show M = _; rw [HHM.out, if_pos rfl, HHQ.out.2.2]
    obtain ⟨ds, hds⟩ : ∃ ds, ds = wrC (put r nx) := ⟨_, rfl⟩
    have hput : cs.set 1 (.int .u64 (nx : Int)) = ds := by rw [HCS.out, hds]; rfl
    have DL : Hid (ds.length = 36) := by show _ = 36; rw [← hput, List.length_set]; exact NL.out
    have DO : Hid (∀ u ∈ ds, u.oneCell' = true) := by rw [hds]; exact wrC_one _
    have HDS := Lib.hid hds
    have HPUT := Lib.hid hput
    have hne' : ((nx : Int) == 18446744073709551615) = false := by simp; omega
    have hwr : (nx + 1) % 18446744073709551616 = nx + 1 := by omega
    have BS : Hid (∀ wx, (Instr.buildSlice 28 1 #[(0, .agg ds.toArray)]).run Try.prog wx = .ok (.slice (some ⟨wx.heap.size, 0, none⟩) 1 1) (wx.alloc (.cells ds.toArray 38))) := fun wx => run_slot_one Try.underlying28 slot_wr ds DL.out wx
    clear hE HHX HHM hbad hds hput
    go_enter Try.func17, Try.ntmps17
    go_wp2_with (refine wpList_val rfl (load_wr cs NL.out rfl _ (b := b) (k := 0) (by rw [← HW1.out]; exact RN.out) (by rw [HB.out]; rfl)) ?_)
    rw [← HW1.out, ← HB.out]
    refine CR.out.mono ?_
    clear CR
    rintro e w2 ⟨rfl, h2⟩
    have d1 := C1.out w2 h2
    have h2' := H1.out.later h2
    have qb := h2'.cellV 0 rfl 1 (v := (.int .u64 (r.seq : Int))) (by rw [HCS.out]; rfl)
    have h3 := h2'.storeV 0 rfl 1 (.int .u64 (nx : Int))
    rw [HPUT.out] at h3
    simp only [List.set_cons_zero] at h3
    have e1 := h3.cellV 1 rfl 1 rfl
    have h4 := h3.storeV 1 rfl 1 (.int .u64 ((nx + 1 : Nat) : Int))
    simp only [List.set_cons_zero, List.set_cons_succ] at h4
    obtain ⟨w4, hw4⟩ : ∃ w4, w4 = (w2.setCell ⟨b, 1, none⟩ (.int .u64 (nx : Int))).setCell ⟨p, 1, none⟩ (.int .u64 ((nx + 1 : Nat) : Int)) := ⟨_, rfl⟩
    rw [← hw4] at h4
    have H4 := Lib.hid h4
    have hw4' : (w2.setCell ⟨b, 1, none⟩ (.int .u64 (nx : Int))).setCell ⟨p, 1, none⟩ (.int .u64 ((nx : Int) + 1)) = w4 := by rw [hw4]; rfl
    have HW4 := Lib.hid hw4'
    clear h2 h2' h3 h4 hw4 hw4'
    go_wp2_with (fail)
    rw [HW4.out]
    clear HW4 d1 qb e1
    have h4d := H4.out.drew
    have LD : Hid (w4.drew.rangeAt b 0 ds) := fun j u hu => by rw [Nat.zero_add]; exact (h4d.cellV 0 rfl j hu).1
    have h5 := h4d.alloc (.cells ds.toArray 38)
    have CN : Hid (∀ j u, ds[j]? = some u → (w4.drew.alloc (.cells ds.toArray 38)).cell? ((⟨w4.heap.size, 0, none⟩ : Addr).add j) = some u) := by
      intro j u hu
      rw [add_of, Nat.zero_add]
      exact cell_of_block (heap_alloc_new w4.drew _) (by simpa using hu)
    obtain ⟨a6, c6, w6, hr6, h6⟩ := run_win_append many_wr h5 2 rfl 28 ⟨w4.heap.size, 0, none⟩ 1 1 ds (by rw [DL.out]) CN.out DO.out (by omega) (by decide)
    simp only [List.set_cons_zero, List.set_cons_succ] at h6
    have C0a : Hid (w4.drew.cell? ⟨p, 0, none⟩ = some (.slice ao n cap)) := (h4d.cellV 1 rfl 0 rfl).1
    have C0b : Hid ((w4.drew.alloc (.cells ds.toArray 38)).cell? ⟨p, 0, none⟩ = some (.slice ao n cap)) := (h5.cellV 1 rfl 0 rfl).1
    have Q6 := Lib.hid (h6.cellV 1 rfl 0 rfl)
    have h7 := h6.storeV 1 rfl 0 (.slice a6 (n + 1) c6)
    simp only [List.set_cons_zero, List.set_cons_succ] at h7
    have H7 := Lib.hid h7
    have HR6 := Lib.hid hr6
    clear h4d h5 hr6 h6 h7 CN H1 H4
    refine wp_chain_list [6, 7, 10] (fun j wx => wx = match j with | 0 => w4.drew | 1 => w4.drew.alloc (.cells ds.toArray 38) | 2 => w6 | _ => w6.setCell ⟨p, 0, none⟩ (.slice a6 (n + 1) c6)) (by kernel_rfl) (by kernel_rfl) (by kernel_rfl) (by kernel_rfl) rfl ?_
    refine wpG_move (ptr p) rfl (by kernel_rfl) (by kernel_rfl) (by kernel_rfl) ?_
    refine wpG_move (ptr p) rfl (by kernel_rfl) (by kernel_rfl) (by kernel_rfl) ?_
    refine wpG_run1 (x := .tmp 29) (ptr p) (ptr p) (by kernel_rfl) (by kernel_rfl) (by kernel_rfl) (by kernel_rfl) (fun j wx ρ hC h0 hc => by simp [go_sem, h0]) ?_
    refine wpG_run1 (x := .tmp 30) (ptr p) (ptr p) (by kernel_rfl) (by kernel_rfl) (by kernel_rfl) (by kernel_rfl) (fun j wx ρ hC h0 hc => by simp [go_sem, h0]) ?_
    refine wpG_runU1 (x := .tmp 31) 1 (ptr p) (.slice ao n cap) (by kernel_rfl) (by kernel_rfl) (by kernel_rfl) (by kernel_rfl) (by kernel_rfl) (by kernel_rfl) (fun j wx ρ hj hC h0 hc => ?_) ?_
    · have hcell : wx.cell? ⟨p, 0, none⟩ = some (.slice ao n cap) := by
        match j, hj with
        | 0, _ => subst hC; exact C0a.out
        | 1, _ => subst hC; exact C0b.out
      simp [go_sem, h0, hcell]
    refine wpG_runU1 (x := .tmp 3) 0 (ptr b) (.agg ds.toArray) (by kernel_rfl) (by kernel_rfl) (by kernel_rfl) (by kernel_rfl) (by kernel_rfl) (by kernel_rfl) (fun j wx ρ hj hC h0 hc => ?_) ?_
    · obtain rfl : j = 0 := by omega
      subst hC
      exact load_wr ds DL.out rfl ρ LD.out h0
    refine wpG_op 0 (.slice (some ⟨w4.heap.size, 0, none⟩) 1 1) _ (.inl rfl) (by kernel_rfl) (by kernel_rfl) (by kernel_rfl) (by kernel_rfl) (by kernel_rfl) (fun wx hC => ⟨_, by subst hC; exact slot_E rfl rfl (BS.out _), rfl⟩) ?_
    refine wpG_op 1 (.slice a6 (n + 1) c6) _ (.inl rfl) (by kernel_rfl) (by kernel_rfl) (by kernel_rfl) (by kernel_rfl) (by kernel_rfl) (fun wx hC => ⟨_, by subst hC; exact append_E rfl rfl rfl HR6.out, rfl⟩) ?_
    refine wpG_run1 (x := .tmp 28) (ptr p) (ptr p) (by kernel_rfl) (by kernel_rfl) (by kernel_rfl) (by kernel_rfl) (fun j wx ρ hC h0 hc => by simp [go_sem, h0]) ?_
    refine wpG_run1 (x := .tmp 36) (ptr p) (ptr p) (by kernel_rfl) (by kernel_rfl) (by kernel_rfl) (by kernel_rfl) (fun j wx ρ hC h0 hc => by simp [go_sem, h0]) ?_
    refine wpG_op 2 undef _ (.inr ⟨rfl, rfl⟩) (by kernel_rfl) (by kernel_rfl) (by kernel_rfl) (by kernel_rfl) (by kernel_rfl) (fun wx hC => ⟨w6.setCell ⟨p, 0, none⟩ (.slice a6 (n + 1) c6), by subst hC; exact storeAt_E (a := ptr p) (v := .slice a6 (n + 1) c6) rfl (by kernel_rfl) (by kernel_rfl) (by simp [go_sem, Q6.out.1, Q6.out.2]), rfl⟩) ?_
    refine wpG_end (fun w9 hw9 => ?_)
    subst hw9
    simp only [setL, List.set_cons_zero, List.set_cons_succ]
    have k1 := (H7.out.cellV 0 rfl 1 (v := .int .u64 (nx : Int)) (by rw [HDS.out]; rfl)).1
    clear Q6 HR6 C0a C0b LD BS
    go_wp2_with (fail)
    go_ret2
    refine ⟨by rw [HM.out]; rfl, .slice a6 (n + 1) c6, ?_⟩
    rw [HX.out]
    have h := H7.out.drop 1
    simp only [List.drop_succ_cons, List.drop_zero] at h
    have e1 : xs ++ ds = (q.L ++ [put r q.next]).flatMap wrC := by rw [List.flatMap_append, HHQ.out.2.1, HHQ.out.2.2, HDS.out]; simp
    have e2 : n + 1 = (q.L ++ [put r q.next]).length := by rw [List.length_append, HHQ.out.1]; rfl
    have e3 : ((nx + 1 : Nat) : Int) = ((q.next + 1 : Nat) : Int) := by rw [HHQ.out.2.2]
    rw [e1, e2, e3] at h
    rw [e2]
    exact ref_close (q := ⟨q.L ++ [put r q.next], q.next + 1⟩) h
end
end Que
end Go.Proofs.Ytepbdjgfaljbgaa

end
section
namespace Go.Proofs.Ytepbdjgfaljbgaa
open Go.RowKit Go.Own
namespace Que
open Go.QueM Byt
abbrev zW : List Value := wrC zeroW
theorem zW_len : zW.length = 36 := wrC_len zeroW (by simp [zeroW, RecM.zsum])
/-- a write is stored in a variable of one's own -/
theorem wr_store {B : Nat} {w0 w : World} {Ps : List Asn} (H : Own.St B w0 w Ps) (i : Nat) {b : Nat} {vs : List Value} (hi : Ps[i]? = some (AVals b 38 vs)) (hv : vs.length = 36) (cs : List Value) (hc : cs.length = 36) :
    w.there b 0 cs.toArray.size ∧ Own.St B w0 (w.setCells b 0 cs.toArray.toList) (Ps.set i (AVals b 38 cs)) := by
  refine ⟨H.thereV i hi (by rw [List.size_toArray, hc, hv]; exact Nat.le_refl _), ?_⟩
  have h := Own.St.setAll i cs 0 w Ps vs H hi (by rw [hc, hv])
  simpa using h
section
variable {B : Nat} {w0 w : World} {Ps : List Asn} {p : Nat} {v : Value} {q : Q} {N : Nat}
set_option maxHeartbeats 3200000 in
theorem frontR_any (H : Own.St B w0 w (ARefQ p v q :: Ps)) (ok : Ok q N) (hN : N ≤ 10000) :
    Calls Try.prog 40 #[ptr p] w fun e w' => e = .returned (.tuple #[wrV (frontW q), .bool (isW q)]) ∧ Own.St B w0 w' (ARefQ p v q :: Ps) := by
  have h0 := ref_open H
  obtain ⟨ao, cap, rfl, _⟩ := h0.winForm 1 rfl
  obtain ⟨n, hn⟩ : ∃ n, n = q.L.length := ⟨_, rfl⟩
  obtain ⟨z, hz⟩ : ∃ z, z = zW := ⟨_, rfl⟩
  have ZL : Hid (z.length = 36) := by show z.length = 36; rw [hz]; exact zW_len
  have ZP : Hid ((Try.prog.info? 38).bind (·.zero) = some (.agg z.toArray)) := by rw [hz]; exact zero_wr
  have ZB : Hid (Try.prog.built 38 [] = some z.toArray) := by rw [hz]; exact built_wr
  have ZO : Hid (z.toArray.all (·.oneCell') = true) := by show _ = true; rw [hz]; exact all_oneCell_toArray (wrC_one _)
  have hbox := h0.boxV 38 z
  obtain ⟨b, hb⟩ : ∃ b, b = w.heap.size := ⟨_, rfl⟩
  obtain ⟨W1, hW1⟩ : ∃ W, W = w.alloc (.cells z.toArray 38) := ⟨_, rfl⟩
  rw [← hb, ← hW1] at hbox
  have c0 := (hbox.cellV 1 rfl 0 rfl).1
  obtain ⟨F, hF⟩ : ∃ F, F = wrC (frontW q) := ⟨_, rfl⟩
  obtain ⟨is, his⟩ : ∃ b, b = isW q := ⟨_, rfl⟩
  show Calls Try.prog _ _ w fun e w' => e = .returned (.tuple #[.agg (wrC (frontW q)).toArray, .bool (isW q)]) ∧ _
  rw [← hF, ← his]
  rw [← hn] at c0
  have FL : Hid (F.length = 36) := by show F.length = 36; rw [hF]; exact wrC_len _ (front_fits ok).sum
  have FO : Hid (F.toArray.all (·.oneCell') = true) := by show _ = true; rw [hF]; exact all_oneCell_toArray (wrC_one _)
  have hnl : n ≤ 10000 := by rw [hn]; exact Nat.le_trans ok.len hN
  have HB := Lib.hid hb
  have HW1 := Lib.hid hW1
  have HN := Lib.hid hn
  by_cases hn0 : n = 0
  · subst hn0
    have hF2 : F = z := by
      rw [hF, hz]
      unfold frontW at_
      rw [List.getD_eq_getElem?_getD, List.getElem?_eq_none (l := q.L) (i := 0) (by omega)]
      rfl
    have his2 : is = false := by rw [his]; unfold isW; exact decide_eq_false (by omega)
    subst his2
    have ws := wr_store hbox 0 rfl ZL.out z ZL.out
    obtain ⟨W2, hW2⟩ : ∃ W, W = W1.setCells b 0 z.toArray.toList := ⟨_, rfl⟩
    rw [← hW2] at ws
    have TH := Lib.hid ws.1
    have H2 := Lib.hid ws.2
    have HW2 := Lib.hid hW2
    have IW := Lib.hid (info_wrA z ZL.out)
    have HF2 := Lib.hid hF2
    clear ws hbox hb hW1 hW2 hF hF2 h0 ok H hz his hn
    go_enter Try.func40, Try.ntmps40
    go_wp2_with (first
      | (refine Own.wpList_allocZ rfl 38 rfl z.toArray ZP.out ?_; rw [← HB.out, ← HW1.out])
      | (refine Own.wpList_built rfl 38 #[] rfl z.toArray ?_ ?_; · (simp only [List.map_toArray, List.map_nil, List.toList_toArray]; exact ZB.out))
      | (refine wpList_store_mid rfl 38 (.tmp 2) (.tmp 10) rfl b 0 z.toArray rfl rfl TH.out IW.out ZO.out ?_; rw [← HW2.out]))
    refine bodyPost_ret (results_cell_two rfl _ _ b 38 _ (0, 0) _ _ rfl rfl (H2.out.rowV 0 rfl) Try.underlying38 rfl (info_wr z ZL.out)) rfl ?_
    exact ⟨by rw [HF2.out]; rfl, ref_close (H2.out.drop 1)⟩
  · have hpos : (0 : Int) < (n : Int) := by omega
    have hne : ((n : Int) == 0) = false := by simp; omega
    have his2 : is = true := by rw [his]; unfold isW; exact decide_eq_true (by omega)
    subst his2
    obtain ⟨g, o, rfl, hr⟩ := win_range ok.fits hbox 2 (n := q.L.length) (by rfl) rfl 0 (by omega)
    rw [Nat.zero_mul, Nat.add_zero] at hr
    have hr2 : Hid (W1.rangeAt g o F) := by rw [hF]; exact hr
    have ws := wr_store hbox 0 rfl ZL.out F FL.out
    obtain ⟨W2, hW2⟩ : ∃ W, W = W1.setCells b 0 F.toArray.toList := ⟨_, rfl⟩
    rw [← hW2] at ws
    have TH := Lib.hid ws.1
    have H2 := Lib.hid ws.2
    have HW2 := Lib.hid hW2
    have IW := Lib.hid (info_wrA F FL.out)
    clear ws hbox hb hW1 hW2 hF h0 ok H hz his hn hr
    go_enter Try.func40, Try.ntmps40
    go_wp2_with (first
      | (refine Own.wpList_allocZ rfl 38 rfl z.toArray ZP.out ?_; rw [← HB.out, ← HW1.out])
      | (refine wpList_val rfl (load_wr F FL.out rfl _ (b := g) (k := o) hr2.out rfl) ?_)
      | (refine wpList_store_mid rfl 38 (.tmp 2) (.tmp 16) rfl b 0 F.toArray rfl rfl TH.out IW.out FO.out ?_; rw [← HW2.out]))
    refine bodyPost_ret (results_cell_two rfl _ _ b 38 _ (0, 0) _ _ rfl rfl (H2.out.rowV 0 rfl) Try.underlying38 rfl (info_wr F FL.out)) rfl ?_
    exact ⟨rfl, ref_close (H2.out.drop 1)⟩
theorem size_wr : (Try.prog.info? 38).map (fun i => i.size) = some 36 := by kernel_rfl
theorem cut_wr {g o n c : Nat} (hn : 1 ≤ n) (hnc : n ≤ c) (hc : c ≤ 9223372036854775807) {op : Oper} {x : Tmp} (ho : op.op = .slice 28 (.tmp x) (some (.const (.int .i64 1))) none none) (ρ : Operand → Value) (w : World) (h0 : ρ (.tmp x) = .slice (some ⟨g, o, none⟩) n c) (h1 : ρ (.const (.int .i64 1)) = .int .i64 1) :
    (execOp ρ op).run Try.prog w = .ok (.value (.slice (some ⟨g, if c = 1 then o else o + 36, none⟩) (n - 1) (c - 1))) w := by
  obtain ⟨i, hi, hs⟩ := Option.map_eq_some_iff.1 size_wr
  have hk' : (1 : Int) ≤ (n : Int) := by omega
  have hk2 : (n : Int) ≤ (c : Int) := by omega
  have hu := Try.underlying28
  by_cases hck : c = 1
  · have hm1 : n = 1 := by omega
    subst hm1 hck
    simp [execOp, ho, h0, h1, go_sem]
  · simp [execOp, ho, h0, h1, go_sem, hk', hck, hu]
set_option maxHeartbeats 3200000 in
theorem popR_any (H : Own.St B w0 w (ARefQ p v q :: Ps)) (ok : Ok q N) (hN : N ≤ 10000) :
    Calls Try.prog 15 #[ptr p] w fun e w' => e = .returned (.tuple #[wrV (frontW q), .bool (isW q)]) ∧ ∃ v', Own.St B w0 w' (ARefQ p v' (pop q) :: Ps) := by
  obtain ⟨z, hz⟩ : ∃ z, z = zW := ⟨_, rfl⟩
  have ZL : Hid (z.length = 36) := by show z.length = 36; rw [hz]; exact zW_len
  have ZP : Hid ((Try.prog.info? 38).bind (·.zero) = some (.agg z.toArray)) := by rw [hz]; exact zero_wr
  have hbox := H.boxV 38 z
  obtain ⟨b, hb⟩ : ∃ b, b = w.heap.size := ⟨_, rfl⟩
  obtain ⟨W1, hW1⟩ : ∃ W, W = w.alloc (.cells z.toArray 38) := ⟨_, rfl⟩
  rw [← hb, ← hW1] at hbox
  obtain ⟨F, hF⟩ : ∃ F, F = wrC (frontW q) := ⟨_, rfl⟩
  obtain ⟨is, his⟩ : ∃ b, b = isW q := ⟨_, rfl⟩
  have CF := Lib.hid (frontR_any hbox.swap2 ok hN)
  unfold wrV at CF
  show Calls Try.prog _ _ w fun e w' => e = .returned (.tuple #[.agg (wrC (frontW q)).toArray, .bool (isW q)]) ∧ _
  rw [← hF, ← his] at CF ⊢
  have FL : Hid (F.length = 36) := by show F.length = 36; rw [hF]; exact wrC_len _ (front_fits ok).sum
  have FO : Hid (F.toArray.all (·.oneCell') = true) := by show _ = true; rw [hF]; exact all_oneCell_toArray (wrC_one _)
  have IW := Lib.hid (info_wrA F FL.out)
  have HB := Lib.hid hb
  have HW1 := Lib.hid hW1
  have HIS := Lib.hid his
  have HOK := Lib.hid ok
  clear hbox hb hW1 H hF hz ok his
  go_enter Try.func15, Try.ntmps15
  go_wp2_with (refine Own.wpList_allocZ rfl 38 rfl z.toArray ZP.out ?_; rw [← HB.out, ← HW1.out])
  refine CF.out.mono ?_
  clear CF HB HW1
  rintro e w2 ⟨rfl, h2⟩
  have h3 := h2.boxV 38 z
  obtain ⟨b4, hb4⟩ : ∃ b, b = w2.heap.size := ⟨_, rfl⟩
  obtain ⟨W3, hW3⟩ : ∃ W, W = w2.alloc (.cells z.toArray 38) := ⟨_, rfl⟩
  rw [← hb4, ← hW3] at h3
  have ws := wr_store h3 0 rfl ZL.out F FL.out
  obtain ⟨W4, hW4⟩ : ∃ W, W = W3.setCells b4 0 F.toArray.toList := ⟨_, rfl⟩
  rw [← hW4] at ws
  have TH := Lib.hid ws.1
  have h4 := ws.2
  simp only [List.set_cons_zero] at h4
  have h5 := h4.perm (Qs := ARefQ p v q :: AVals b4 38 F :: AVals b 38 z :: Ps) (List.Perm.swap _ _ _)
  have h6 := ref_open h5
  have H4 := Lib.hid h5
  have H6 := Lib.hid h6
  have HB4 := Lib.hid hb4
  have HW3 := Lib.hid hW3
  have HW4 := Lib.hid hW4
  clear h2 h3 ws h4 h5 h6 hb4 hW3 hW4
  cases is
  · have he : pop q = q := by
      have h := HIS.out
      unfold isW at h
      have hl : q.L.length = 0 := by
        have := of_decide_eq_false h.symm
        omega
      cases q with
      | mk L nx =>
        obtain rfl : L = [] := List.eq_nil_of_length_eq_zero hl
        rfl
    have HE := Lib.hid he
    have RF : Hid (W4.rangeAt b4 0 F) := fun j u hu => by rw [Nat.zero_add]; exact (H4.out.cellV 1 rfl j hu).1
    have ws := wr_store H4.out 2 rfl ZL.out F FL.out
    obtain ⟨W5, hW5⟩ : ∃ W, W = W4.setCells b 0 F.toArray.toList := ⟨_, rfl⟩
    rw [← hW5] at ws
    have TH5 := Lib.hid ws.1
    have H5 := Lib.hid ws.2
    have HW5 := Lib.hid hW5
    clear he ws hW5 H6
    go_wp2_with (first
      | (refine Own.wpList_allocZ rfl 38 rfl z.toArray ZP.out ?_; rw [← HB4.out, ← HW3.out])
      | (refine wpList_store_mid rfl 38 (.tmp 4) (.tmp 9) rfl b4 0 F.toArray rfl rfl TH.out IW.out FO.out ?_; rw [← HW4.out])
      | (refine wpList_val rfl (load_wr F FL.out rfl _ (b := b4) (k := 0) RF.out rfl) ?_)
      | (refine wpList_store_mid rfl 38 (.tmp 2) (.tmp 20) rfl b 0 F.toArray rfl rfl TH5.out IW.out FO.out ?_; rw [← HW5.out]))
    refine bodyPost_ret (results_cell_two rfl _ _ b 38 _ (0, 0) _ _ rfl rfl (H5.out.rowV 2 rfl) Try.underlying38 rfl (info_wr F FL.out)) rfl ?_
    refine ⟨rfl, v, ?_⟩
    rw [HE.out]
    have h := H5.out
    simp only [List.set_cons_zero, List.set_cons_succ] at h
    exact (h.perm (Qs := AVals b4 38 F :: AVals b 38 F :: ARefQ p v q :: Ps) ((List.Perm.swap _ _ _).trans ((List.Perm.swap _ _ _).cons _))).drop 2
  · have hl : 0 < q.L.length := by
      have h := HIS.out
      unfold isW at h
      exact of_decide_eq_true h.symm
    obtain ⟨ao, c, rfl, hxl, hnc, hcm, _⟩ := H6.out.winForm 1 rfl
    obtain ⟨g, o, hgo, _, _⟩ := H6.out.winAt 1 rfl 0 (by omega)
    subst hgo
    obtain ⟨n, hn⟩ : ∃ n, n = q.L.length := ⟨_, rfl⟩
    have qc := H6.out.cellV 0 rfl 0 rfl
    have tl := H6.out.winTail 1 (k := 1) rfl (by omega)
    simp only [Nat.one_mul] at tl
    rw [← hn] at qc hl hnc
    have hcm2 : c ≤ 9223372036854775807 := by unfold maxLen at hcm; omega
    obtain ⟨o', ho'⟩ : ∃ o', o' = if c = 1 then o else o + 36 := ⟨_, rfl⟩
    have H7 : Hid (Own.St B w0 W4 (AVals p 30 (queC (.slice (some ⟨g, o, none⟩) n c) q) :: AWin 36 (.slice (some ⟨g, o', none⟩) (n - 1) (c - 1)) (n - 1) ((q.L.flatMap wrC).drop 36) :: AVals b4 38 F :: AVals b 38 z :: Ps)) := by
      by_cases hc1 : c = 1
      · rw [ho', if_pos hc1, hn]
        have h := tl.2 hc1.symm
        exact h
      · rw [ho', if_neg hc1, hn]
        exact tl.1
    have h8 := H7.out.storeV 0 rfl 0 (.slice (some ⟨g, o', none⟩) (n - 1) (c - 1))
    simp only [List.set_cons_zero] at h8
    obtain ⟨W6, hW6⟩ : ∃ W, W = W4.setCell ⟨p, 0, none⟩ (.slice (some ⟨g, o', none⟩) (n - 1) (c - 1)) := ⟨_, rfl⟩
    rw [← hW6] at h8
    have H8 := Lib.hid h8
    have HW6 := Lib.hid hW6
    have RF : Hid (W6.rangeAt b4 0 F) := fun j u hu => by rw [Nat.zero_add]; exact (H8.out.cellV 2 rfl j hu).1
    have ws := wr_store H8.out 3 rfl ZL.out F FL.out
    obtain ⟨W5, hW5⟩ : ∃ W, W = W6.setCells b 0 F.toArray.toList := ⟨_, rfl⟩
    rw [← hW5] at ws
    have TH5 := Lib.hid ws.1
    have H5 := Lib.hid ws.2
    have HW5 := Lib.hid hW5
    have HN := Lib.hid hn
    have HO := Lib.hid ho'
    clear ws hW5 H6 h8 hW6 H7 tl hn H4 ho'
    go_wp2_with (first
      | (refine Own.wpList_allocZ rfl 38 rfl z.toArray ZP.out ?_; rw [← HB4.out, ← HW3.out])
      | (refine wpList_store_mid rfl 38 (.tmp 4) (.tmp 9) rfl b4 0 F.toArray rfl rfl TH.out IW.out FO.out ?_; rw [← HW4.out])
      | (refine wpList_val rfl (cut_wr hl hnc hcm2 rfl _ _ rfl rfl) ?_; rw [← HO.out])
      | (refine wpList_val rfl (load_wr F FL.out rfl _ (b := b4) (k := 0) (by rw [← HW6.out]; exact RF.out) rfl) ?_)
      | (refine wpList_store_mid rfl 38 (.tmp 2) (.tmp 20) rfl b 0 F.toArray rfl rfl (by rw [← HW6.out]; exact TH5.out) IW.out FO.out ?_; rw [← HW6.out, ← HW5.out]))
    refine bodyPost_ret (results_cell_two rfl _ _ b 38 _ (0, 0) _ _ rfl rfl (H5.out.rowV 3 rfl) Try.underlying38 rfl (info_wr F FL.out)) rfl ?_
    refine ⟨rfl, .slice (some ⟨g, o', none⟩) (n - 1) (c - 1), ?_⟩
    have h := H5.out
    simp only [List.set_cons_zero, List.set_cons_succ] at h
    have hp : Own.St B w0 W5 (AVals p 30 [.slice (some ⟨g, o', none⟩) (n - 1) (c - 1), .int .u64 (q.next : Int)] :: AWin 36 (.slice (some ⟨g, o', none⟩) (n - 1) (c - 1)) (n - 1) ((q.L.flatMap wrC).drop 36) :: Ps) :=
      (h.perm (Qs := AVals b4 38 F :: AVals b 38 F :: AVals p 30 [.slice (some ⟨g, o', none⟩) (n - 1) (c - 1), .int .u64 (q.next : Int)] :: AWin 36 (.slice (some ⟨g, o', none⟩) (n - 1) (c - 1)) (n - 1) ((q.L.flatMap wrC).drop 36) :: Ps)
        (List.perm_append_comm (l₁ := [_, _]) (l₂ := [_, _]) |>.append_right Ps)).drop 2
    have e1 : (pop q).L.length = n - 1 := by show (q.L.drop 1).length = _; rw [List.length_drop, HN.out]
    have e2 : (pop q).L.flatMap wrC = (q.L.flatMap wrC).drop 36 := by
      show (q.L.drop 1).flatMap wrC = _
      have hq := HOK.out.fits
      match q.L, hq with
      | [], _ => simp
      | x :: L, hq =>
        rw [List.drop_succ_cons, List.drop_zero, List.flatMap_cons, List.drop_left' (wrC_len x (hq x (List.mem_cons_self ..)).sum)]
    rw [← e1, ← e2] at hp
    rw [← e1]
    exact ref_close (q := pop q) hp
end
end Que
end Go.Proofs.Ytepbdjgfaljbgaa

end
section
namespace Go.Own
open Go.RowKit
section
variable {P : Program} {ops : Array Oper} {C : World → Prop} {o : Oper} {I : Lx} {ds : List Deferred} {rest : List Oper} {Q : Act → World → Prop} {fs : List Value}
theorem gives_callUk {a : Act} {t : Tmp} {y : Operand} {R : Ty} (vy : Value) (R' : Ty) {f : FuncId} {ts : Array TypeId} (ho : o.op = .call { callee := .value (.func f), args := #[.tmp t, y], argTypes := ts }) (hx : I.lookup t = some R) (hk : known I y = true) (hy : a.eval y = vy)
    (hfn : ∀ (args : Array Value) w, (callFunc f args).run P w = .ok (.enter f args) w) (hc : ∀ (u : Value) w, C w → R.holds u w → Calls P f #[u, vy] w fun e w' => ∃ r, e = .returned r ∧ R'.holds r w' ∧ Below w.heap.size w w') : Gives P ops C o I a R' := fun a1 w hC ht K Q' hK => by
  have h1 := ht t (looks_of_operand (x := .tmp t) (by rw [ho]; simp [Op.operands, Call.operands]) rfl)
  unfold slotIs at h1
  rw [hx] at h1
  have h2 : a1.eval y = vy := (known_eval hk (by rw [ho]; simp [Op.operands, Call.operands]) ht).trans hy
  unfold Oper.wp
  rw [enter_of (xs := [.tmp t, y]) ho a1.eval rfl hfn]
  simp only [List.map_cons, List.map_nil, h2]
  exact (hc _ w hC h1).mono fun e w' ⟨v, he, hv, hb⟩ => by subst he; exact hK _ _ hv hb
/-- a call of one argument that is not known and one that is -/
theorem wpL_fnUkV {t : Tmp} {y : Operand} {R : Ty} (vy v : Value) {f : FuncId} {ts : Array TypeId} (ho : o.op = .call { callee := .value (.func f), args := #[.tmp t, y], argTypes := ts }) (hx : I.lookup t = some R) (hk : known I y = true) (hy : ev fs y = vy) (hg : guardKnown ops o I = true) (hw : wantedL ops fs o = true)
    (hfn : ∀ (args : Array Value) w, (callFunc f args).run P w = .ok (.enter f args) w) (hc : ∀ (u : Value) w, C w → R.holds u w → Calls P f #[u, vy] w fun e w' => e = .returned v ∧ Below w.heap.size w w') (k : wpL P ops C Q ds rest I (setL fs o.dst v)) : wpL P ops C Q ds (o :: rest) I fs :=
  ⟨_, _, .val v hg (wantedL_eq.trans hw) (gives_callUk vy (Ty.is v) ho hx hk ((mkA_eval y).trans hy) hfn (fun u w h1 h2 => (hc u w h1 h2).mono fun _ _ h => ⟨v, h.1, rfl, h.2⟩)), by rw [mkA_put]; exact k⟩
end
end Go.Own

end
