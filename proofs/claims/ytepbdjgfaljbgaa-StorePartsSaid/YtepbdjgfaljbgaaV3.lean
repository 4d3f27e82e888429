/- Merged: StoA StbM MapV StbA StbB StbC StbG StbD -/
import Derived.Maps.Own
import Derived.Maps.Views
import Derived.WideKeyArr
import Derived.Carry
import Derived.Maps.RangeWalk
import Derived.DeepKeys4
import Derived.Lib.BytesEntry
import Derived.Sort.Grow
import Derived.Test.YtepbdjgfaljbgaaV1
import Derived.Test.YtepbdjgfaljbgaaV2
set_option linter.unusedVariables false
section
namespace Go.Proofs.Ytepbdjgfaljbgaa
open Go.RowKit Go.Own
namespace Sto
open Go.StoM Byt
open Rec (keyC keyC_len)
abbrev ptr (p : Nat) : Value := .pointer (some ⟨p, 0, none⟩)
abbrev errS (n : Nat) : Value := .int .i64 (n : Int)
abbrev iS (x : Int) : Value := .int .i64 x
abbrev i64S (x : Int) : Prop := -9223372036854775808 ≤ x ∧ x ≤ 9223372036854775807
structure FitK (k : Ky) : Prop where
  sum : k.sum.length = 32
  n : k.n < 4294967296
structure FitP (p : Pl) : Prop where
  seg : i64S p.seg
  page : i64S p.page
  pages : i64S p.pages
structure Fit (c : Ch) : Prop where
  key : FitK c.key
  place : FitP c.place
  refs : i64S c.refs
def kC (k : Ky) : List Value := keyC k.sum k.n
def kV (k : Ky) : Value := .agg (kC k).toArray
def pC (p : Pl) : List Value := [iS p.seg, iS p.page, iS p.pages]
def pV (p : Pl) : Value := .agg (pC p).toArray
def chC (c : Ch) : List Value := kC c.key ++ [iS c.place.seg, iS c.place.page, iS c.place.pages, iS c.refs]
def chV (c : Ch) : Value := .agg (chC c).toArray
def zeroCh : Ch := ⟨⟨RecM.zsum, 0⟩, ⟨0, 0, 0⟩, 0⟩
theorem kC_len {k : Ky} (h : FitK k) : (kC k).length = 33 := keyC_len _ _ h.sum
theorem chC_len {c : Ch} (h : FitK c.key) : (chC c).length = 37 := by unfold chC; simp [kC_len h]
theorem zero_fit : Fit zeroCh := ⟨⟨by simp [zeroCh, RecM.zsum], by decide⟩, ⟨by decide, by decide, by decide⟩, by decide⟩
theorem kC_one (k : Ky) : ∀ u ∈ kC k, u.oneCell' = true := by
  intro u hu
  unfold kC keyC at hu
  simp only [List.mem_append, List.mem_cons, List.not_mem_nil, or_false] at hu
  rcases hu with h | rfl
  · exact byteV_one _ u h
  · rfl
theorem chC_one (c : Ch) : ∀ u ∈ chC c, u.oneCell' = true := by
  intro u hu
  unfold chC at hu
  simp only [List.mem_append, List.mem_cons, List.not_mem_nil, or_false] at hu
  rcases hu with h | rfl | rfl | rfl | rfl
  · exact kC_one _ u h
  all_goals rfl
theorem chC_key {c : Ch} (h : FitK c.key) (j : Nat) (u : Value) (hu : (kC c.key)[j]? = some u) : (chC c)[j]? = some u := by
  unfold chC
  rw [List.getElem?_append_left (List.getElem?_eq_some_iff.1 hu).1]
  exact hu
theorem chC_rest {c : Ch} (h : FitK c.key) (j : Nat) : (chC c)[33 + j]? = [iS c.place.seg, iS c.place.page, iS c.place.pages, iS c.refs][j]? := by
  unfold chC
  rw [List.getElem?_append_right (by rw [kC_len h]; omega), kC_len h]
  congr 1
  omega
theorem kC_n {k : Ky} (h : FitK k) : (kC k)[32]? = some (.int .u32 (k.n : Int)) := by
  unfold kC keyC
  rw [List.getElem?_append_right (by simp [h.sum]), List.length_map, h.sum]
  rfl
theorem kC_sum {k : Ky} (j : Nat) (u : Value) (hu : (k.sum.map byteV)[j]? = some u) : (kC k)[j]? = some u := by
  unfold kC keyC
  rw [List.getElem?_append_left (List.getElem?_eq_some_iff.1 hu).1]
  exact hu
theorem kC_inj {a b : Ky} (ha : FitK a) (hb : FitK b) (h : kC a = kC b) : a = b := by
  unfold kC keyC at h
  have hl : (a.sum.map byteV).length = (b.sum.map byteV).length := by simp [ha.sum, hb.sum]
  obtain ⟨h1, h2⟩ := List.append_inj h hl
  have e1 : a.sum = b.sum := (List.map_inj_right (f := byteV) (fun x y h => by
    unfold byteV at h
    simp only [Value.int.injEq, true_and] at h
    exact UInt8.toNat_inj.1 (by omega))).1 h1
  have e2 : a.n = b.n := by
    have : (a.n : Int) = b.n := by simpa using h2
    omega
  cases a; cases b; simp only at e1 e2; rw [e1, e2]
theorem info_ch (cs : List Value) (h : cs.length = 37) : (Try.prog.info? 74).map (·.size) = some cs.length := by
  have h0 : (Try.prog.info? 74).map (fun i => i.size) = some 37 := by kernel_rfl
  rw [h]; exact h0
theorem info_chA (cs : List Value) (h : cs.length = 37) : (Try.prog.info? 74).map (·.size) = some cs.toArray.size := by rw [List.size_toArray]; exact info_ch cs h
theorem zero_ch : (Try.prog.info? 74).bind (·.zero) = some (.agg (chC zeroCh).toArray) := by kernel_rfl
theorem boxy_ch : Boxy Try.prog 74 37 := boxy_of (chC zeroCh).toArray zero_ch (by kernel_rfl) (by kernel_rfl)
theorem many_ch : Many Try.prog 64 74 37 72 := ⟨Try.underlying64, by kernel_rfl, by decide⟩
theorem zeroValue_ch (w : World) : (zeroValue 74).run Try.prog w = .ok (chV zeroCh) w := by kernel_rfl
/-- a chunk is loaded, whatever the guard -/
theorem load_ch (cs : List Value) (hl : cs.length = 37) {o : Oper} {x : Tmp} (ho : o.op = .load 74 (.tmp x)) {b k : Nat} (ρ : Operand → Value) {w : World} (hr : w.rangeAt b k cs) (h0 : ρ (.tmp x) = .pointer (some ⟨b, k, none⟩)) : (execOp ρ o).run Try.prog w = .ok (.value (.agg cs.toArray)) w := by
  have := run_loadAt_mid (P := Try.prog) w b k 74 cs _ hr Try.underlying74 rfl (info_ch cs hl)
  unfold execOp
  simp only [ho, h0, Sem.run_bind, this, Result.andThen_ok, Sem.run_pure]
theorem slot_ch (cs : List Value) (hl : cs.length = 37) (w : World) : (Instr.buildSlice 64 1 #[(0, .agg cs.toArray)]).run Try.prog w = .ok (.slice (some ⟨w.heap.size, 0, none⟩) 1 1) (w.alloc (.cells cs.toArray 74)) :=
  run_slot_one (c := 37) Try.underlying64 (fun f => by kernel_rfl) cs hl w
/-! ### equality -/
theorem run_eq_keyD (d : Nat) (a b : Ky) (ha : FitK a) (hb : FitK b) (w : World) : (Op.equalIn (d + 4) 36 (kV a) (kV b)).run Try.prog w = .ok (decide (a = b)) w := by
  have ht : Try.prog.underlying 36 = some (.struct (Try.prog.fieldsOf 36)) := by kernel_rfl
  have hp : Try.prog.stoodInHeld 36 = false := by kernel_rfl
  have h := run_equalIn_struct (P := Try.prog) w (d + 3) 36 (kC a).toArray (kC b).toArray ht hp
  unfold kV
  rw [h]
  have hf := Rec.key_fields
  obtain ⟨al, ax⟩ := a
  obtain ⟨bl, bx⟩ := b
  have e : decide ((⟨al, ax⟩ : Ky) = ⟨bl, bx⟩) = (decide (al = bl) && decide (ax = bx)) := by
    by_cases h1 : al = bl <;> by_cases h2 : ax = bx <;> simp [h1, h2]
  rw [e]
  match hl : (Try.prog.fieldsOf 36).toList with
  | [] => rw [hl] at hf; simp at hf
  | [_] => rw [hl] at hf; simp at hf
  | _ :: _ :: _ :: _ => rw [hl] at hf; simp at hf
  | [f0, f1] =>
    rw [hl] at hf
    simp only [List.map_cons, List.map_nil, List.cons.injEq, Prod.mk.injEq, and_true] at hf
    obtain ⟨⟨n0, t0, o0⟩, n1, t1, o1⟩ := hf
    have hs := Rec.run_eq_sum (d + 1) al bl ha.sum hb.sum w
    have hi := run_equalIn_int (P := Try.prog) w (d + 2) 32 .u32 .u32 (ax : Int) (bx : Int) Try.underlying32
    unfold kC
    simp only [Op.eqFields, n0, t0, o0, n1, t1, o1, ne_eq, String.reduceEq, not_false_eq_true, if_true, Sem.run_bind, Rec.part_sum al ax ha.sum, Rec.part_sum bl bx hb.sum, Result.andThen_ok]
    rw [hs]
    by_cases hab : al = bl
    · subst hab
      simp only [decide_true, Result.andThen_ok, Bool.not_true, Bool.false_eq_true, if_false, Sem.run_bind, Rec.part_kn al ax ha.sum, Rec.part_kn al bx ha.sum, Bool.true_and]
      rw [hi]
      by_cases hxy : ax = bx
      · simp [hxy]
      · have hxy' : ¬ (ax : Int) = (bx : Int) := by omega
        simp [hxy, hxy']
    · simp [hab]
theorem place_fields : (Try.prog.fieldsOf 72).toList.map (fun f => (f.name, f.type, f.offset)) = [("Seg", 3, 0), ("Page", 3, 1), ("Pages", 3, 2)] := by kernel_rfl
theorem chunk_fields : (Try.prog.fieldsOf 74).toList.map (fun f => (f.name, f.type, f.offset)) = [("Key", 36, 0), ("Place", 72, 33), ("Refs", 3, 36)] := by kernel_rfl
theorem part_i {cs : Array Value} {k : Nat} {x : Int} (h : cs[k]? = some (iS x)) (w : World) : (part 3 cs k).run Try.prog w = .ok (iS x) w := by
  have h1 : ∀ w, (isAgg 3).run Try.prog w = .ok false w := fun w => by kernel_rfl
  unfold part
  simp only [Sem.run_bind, h1, Result.andThen_ok, Bool.false_eq_true, if_false, h, Sem.run_pure]
theorem run_eq_place (d : Nat) (a b : Pl) (w : World) : (Op.equalIn (d + 3) 72 (pV a) (pV b)).run Try.prog w = .ok (decide (a = b)) w := by
  have ht : Try.prog.underlying 72 = some (.struct (Try.prog.fieldsOf 72)) := by kernel_rfl
  have hp : Try.prog.stoodInHeld 72 = false := by kernel_rfl
  have h := run_equalIn_struct (P := Try.prog) w (d + 2) 72 (pC a).toArray (pC b).toArray ht hp
  unfold pV
  rw [h]
  have hf := place_fields
  obtain ⟨a0, a1, a2⟩ := a
  obtain ⟨b0, b1, b2⟩ := b
  have e : decide ((⟨a0, a1, a2⟩ : Pl) = ⟨b0, b1, b2⟩) = (decide (a0 = b0) && decide (a1 = b1) && decide (a2 = b2)) := by
    by_cases h1 : a0 = b0 <;> by_cases h2 : a1 = b1 <;> by_cases h3 : a2 = b2 <;> simp [h1, h2, h3]
  rw [e]
  match hl : (Try.prog.fieldsOf 72).toList with
  | [] => rw [hl] at hf; simp at hf
  | [_] => rw [hl] at hf; simp at hf
  | [_, _] => rw [hl] at hf; simp at hf
  | _ :: _ :: _ :: _ :: _ => rw [hl] at hf; simp at hf
  | [f0, f1, f2] =>
    rw [hl] at hf
    simp only [List.map_cons, List.map_nil, List.cons.injEq, Prod.mk.injEq, and_true] at hf
    obtain ⟨⟨n0, t0, o0⟩, ⟨n1, t1, o1⟩, n2, t2, o2⟩ := hf
    have e0 : ∀ w, (Op.equalIn (d + 2) 3 (iS a0) (iS b0)).run Try.prog w = .ok (decide (a0 = b0)) w := fun w => run_equalIn_int (P := Try.prog) w (d + 1) 3 .i64 .i64 a0 b0 Try.underlying3
    have e1 : ∀ w, (Op.equalIn (d + 2) 3 (iS a1) (iS b1)).run Try.prog w = .ok (decide (a1 = b1)) w := fun w => run_equalIn_int (P := Try.prog) w (d + 1) 3 .i64 .i64 a1 b1 Try.underlying3
    have e2 : ∀ w, (Op.equalIn (d + 2) 3 (iS a2) (iS b2)).run Try.prog w = .ok (decide (a2 = b2)) w := fun w => run_equalIn_int (P := Try.prog) w (d + 1) 3 .i64 .i64 a2 b2 Try.underlying3
    have p0 := part_i (cs := (pC ⟨a0, a1, a2⟩).toArray) (k := 0) (x := a0) rfl
    have p1 := part_i (cs := (pC ⟨a0, a1, a2⟩).toArray) (k := 1) (x := a1) rfl
    have p2 := part_i (cs := (pC ⟨a0, a1, a2⟩).toArray) (k := 2) (x := a2) rfl
    have q0 := part_i (cs := (pC ⟨b0, b1, b2⟩).toArray) (k := 0) (x := b0) rfl
    have q1 := part_i (cs := (pC ⟨b0, b1, b2⟩).toArray) (k := 1) (x := b1) rfl
    have q2 := part_i (cs := (pC ⟨b0, b1, b2⟩).toArray) (k := 2) (x := b2) rfl
    generalize decide (a0 = b0) = t0' at e0 ⊢
    generalize decide (a1 = b1) = t1' at e1 ⊢
    generalize decide (a2 = b2) = t2' at e2 ⊢
    clear e h
    cases t0' <;> cases t1' <;> cases t2' <;>
      simp [Op.eqFields, n0, t0, o0, n1, t1, o1, n2, t2, o2, p0, p1, p2, q0, q1, q2, e0, e1, e2]
theorem extract_mid {xs ys zs : List Value} {a n : Nat} (ha : xs.length = a) (hn : ys.length = n) : (xs ++ (ys ++ zs)).toArray.extract a (a + n) = ys.toArray := by
  rw [List.extract_toArray]
  congr 1
  rw [List.extract_eq_take_drop, List.drop_append_of_le_length (by omega), ← ha, List.drop_length, List.nil_append, Nat.add_sub_cancel_left, ← hn, List.take_append_of_le_length (Nat.le_refl _), List.take_length]
theorem part_ck {c : Ch} (h : FitK c.key) (w : World) : (part 36 (chC c).toArray 0).run Try.prog w = .ok (kV c.key) w := by
  have h1 : ∀ w, (isAgg 36).run Try.prog w = .ok true w := fun w => by kernel_rfl
  have h2 : ∀ w, (sizeOf 36).run Try.prog w = .ok 33 w := fun w => by kernel_rfl
  have e : (chC c).toArray.extract 0 (0 + 33) = (kC c.key).toArray := extract_mid (xs := []) rfl (kC_len h)
  unfold part
  simp only [Sem.run_bind, h1, h2, Result.andThen_ok, if_true, Sem.run_pure, e]
  rfl
theorem part_cp {c : Ch} (h : FitK c.key) (w : World) : (part 72 (chC c).toArray 33).run Try.prog w = .ok (pV c.place) w := by
  have h1 : ∀ w, (isAgg 72).run Try.prog w = .ok true w := fun w => by kernel_rfl
  have h2 : ∀ w, (sizeOf 72).run Try.prog w = .ok 3 w := fun w => by kernel_rfl
  have e : (chC c).toArray.extract 33 (33 + 3) = (pC c.place).toArray := extract_mid (xs := kC c.key) (ys := pC c.place) (zs := [iS c.refs]) (kC_len h) rfl
  unfold part
  simp only [Sem.run_bind, h1, h2, Result.andThen_ok, if_true, Sem.run_pure, e]
  rfl
theorem run_eq_ch (a b : Ch) (ha : FitK a.key) (hb : FitK b.key) (w : World) : (Op.equalIn 10000 74 (chV a) (chV b)).run Try.prog w = .ok (decide (a = b)) w := by
  have ht : Try.prog.underlying 74 = some (.struct (Try.prog.fieldsOf 74)) := by kernel_rfl
  have hp : Try.prog.stoodInHeld 74 = false := by kernel_rfl
  have h := run_equalIn_struct (P := Try.prog) w 9999 74 (chC a).toArray (chC b).toArray ht hp
  show (Op.equalIn 10000 _ (.agg (chC a).toArray) (.agg (chC b).toArray)).run _ _ = _
  rw [h]
  have hf := chunk_fields
  have e : decide (a = b) = (decide (a.key = b.key) && decide (a.place = b.place) && decide (a.refs = b.refs)) := by
    obtain ⟨a0, a1, a2⟩ := a
    obtain ⟨b0, b1, b2⟩ := b
    by_cases h1 : a0 = b0 <;> by_cases h2 : a1 = b1 <;> by_cases h3 : a2 = b2 <;> simp [h1, h2, h3]
  rw [e]
  match hl : (Try.prog.fieldsOf 74).toList with
  | [] => rw [hl] at hf; simp at hf
  | [_] => rw [hl] at hf; simp at hf
  | [_, _] => rw [hl] at hf; simp at hf
  | _ :: _ :: _ :: _ :: _ => rw [hl] at hf; simp at hf
  | [f0, f1, f2] =>
    rw [hl] at hf
    simp only [List.map_cons, List.map_nil, List.cons.injEq, Prod.mk.injEq, and_true] at hf
    obtain ⟨⟨n0, t0, o0⟩, ⟨n1, t1, o1⟩, n2, t2, o2⟩ := hf
    have e0 : ∀ w, (Op.equalIn 9999 36 (kV a.key) (kV b.key)).run Try.prog w = .ok (decide (a.key = b.key)) w := run_eq_keyD 9995 a.key b.key ha hb
    have e1 : ∀ w, (Op.equalIn 9999 72 (pV a.place) (pV b.place)).run Try.prog w = .ok (decide (a.place = b.place)) w := run_eq_place 9996 a.place b.place
    have e2 : ∀ w, (Op.equalIn 9999 3 (iS a.refs) (iS b.refs)).run Try.prog w = .ok (decide (a.refs = b.refs)) w := fun w => run_equalIn_int (P := Try.prog) w 9998 3 .i64 .i64 a.refs b.refs Try.underlying3
    have p0 := part_ck ha
    have p1 := part_cp ha
    have p2 := part_i (cs := (chC a).toArray) (k := 36) (x := a.refs) (by rw [List.getElem?_toArray]; exact chC_rest ha 3)
    have q0 := part_ck hb
    have q1 := part_cp hb
    have q2 := part_i (cs := (chC b).toArray) (k := 36) (x := b.refs) (by rw [List.getElem?_toArray]; exact chC_rest hb 3)
    generalize decide (a.key = b.key) = t0' at e0 ⊢
    generalize decide (a.place = b.place) = t1' at e1 ⊢
    generalize decide (a.refs = b.refs) = t2' at e2 ⊢
    clear e h
    cases t0' <;> cases t1' <;> cases t2' <;>
      simp [Op.eqFields, n0, t0, o0, n1, t1, o1, n2, t2, o2, p0, p1, p2, q0, q1, q2, e0, e1, e2]
theorem bin_ch {o : Oper} {x y : Operand} {op : BinOp} (hop : op = .eql ∨ op = .neq) (ho : o.op = .binOp op 74 x y 74) {a b : Ch} (ha : FitK a.key) (hb : FitK b.key) {t : Bool} (hv : (if op = .eql then decide (a = b) else !decide (a = b)) = t) (ρ : Operand → Value) (w : World)
    (h0 : ρ x = chV a) (h1 : ρ y = chV b) : (execOp ρ o).run Try.prog w = .ok (.value (.bool t)) w := by
  have h' := run_eq_ch a b ha hb w
  have hm : Try.prog.eqGuardType Try.prog.depth 74 = false := by kernel_rfl
  have hg := run_eqGuard_agg (P := Try.prog) w op 74 x y (chC a).toArray (chC b).toArray hm
  have hq : (Op.equal 74 (.agg (chC a).toArray) (.agg (chC b).toArray)).run Try.prog w = .ok (decide (a = b)) w := h'
  have hb : (binOp op 74 (.agg (chC a).toArray) (.agg (chC b).toArray)).run Try.prog w = .ok (.bool t) w := by
    rcases hop with rfl | rfl
    · simp at hv
      simp [binOp, hq, hv]
    · simp at hv
      simp [binOp, hq, hv]
  unfold chV at h0 h1
  unfold execOp
  simp only [ho, h0, h1, Sem.run_bind, hg, Result.andThen_ok, hb, Sem.run_pure]
end Sto
end Go.Proofs.Ytepbdjgfaljbgaa

end
section
namespace Go.StoM
/-- put in the place of the one with the same key, if there is one -/
def putS (l : List Ch) (c : Ch) : List Ch := if isAt l c.key then l.set (posK c.key l) c else putAt l (posK c.key l) c
theorem mem_at {l : List Ch} (hs : Sorted l) {c : Ch} (hc : c ∈ l) : isAt l c.key = true ∧ atS l c.key = c ∧ l[posK c.key l]? = some c := by
  obtain ⟨i, hi⟩ := List.mem_iff_getElem?.1 hc
  have hp : posK c.key l = i := by
    rcases Nat.lt_trichotomy (posK c.key l) i with h | h | h
    · exfalso
      have hlt : posK c.key l < l.length := by have := (List.getElem?_eq_some_iff.1 hi).1; omega
      have h0 := List.getElem?_eq_getElem hlt
      have h1 := pos_behind c.key l hs _ _ h0 (Nat.le_refl _)
      have h2 := (List.pairwise_iff_getElem.1 hs) (posK c.key l) i hlt (List.getElem?_eq_some_iff.1 hi).1 h
      rw [(List.getElem?_eq_some_iff.1 hi).2, h1] at h2
      cases h2
    · exact h
    · have := pos_ahead c.key l i c hi h
      rw [less_irrefl] at this
      cases this
  have h1 : l[posK c.key l]? = some c := by rw [hp]; exact hi
  refine ⟨?_, ?_, h1⟩
  · unfold isAt; rw [h1]; simp
  · unfold atS; rw [List.getD_eq_getElem?_getD, h1]; rfl
theorem at_mem {l : List Ch} {k : Ky} (h : isAt l k = true) : atS l k ∈ l ∧ (atS l k).key = k := by
  obtain ⟨_, h2, h3⟩ := at_some h
  exact ⟨List.mem_of_getElem? h2, h3⟩
theorem at_iff {l : List Ch} (hs : Sorted l) {k : Ky} : isAt l k = true ↔ ∃ c ∈ l, c.key = k :=
  ⟨fun h => ⟨_, (at_mem h).1, (at_mem h).2⟩, fun ⟨c, hc, e⟩ => by rw [← e]; exact (mem_at hs hc).1⟩
theorem key_inj {l : List Ch} (hs : Sorted l) {a b : Ch} (ha : a ∈ l) (hb : b ∈ l) (h : a.key = b.key) : a = b := by
  have h1 := (mem_at hs ha).2.1
  rw [h, (mem_at hs hb).2.1] at h1
  exact h1.symm
theorem sorted_nodup {l : List Ch} (hs : Sorted l) : l.Nodup := by
  unfold List.Nodup
  refine List.Pairwise.imp (fun {a b} h e => ?_) hs
  subst e
  rw [less_irrefl] at h
  cases h
theorem mem_putAt {l : List Ch} {i : Nat} {c d : Ch} : d ∈ putAt l i c ↔ d ∈ l ∨ d = c := by
  unfold putAt
  rw [List.mem_append, List.mem_cons]
  constructor
  · rintro (h | h | h)
    · exact .inl (List.mem_of_mem_take h)
    · exact .inr h
    · exact .inl (List.mem_of_mem_drop h)
  · rintro (h | h)
    · rw [← List.take_append_drop i l, List.mem_append] at h
      rcases h with h | h
      · exact .inl h
      · exact .inr (.inr h)
    · exact .inr (.inl h)
theorem putAt_len (l : List Ch) (i : Nat) (c : Ch) (h : i ≤ l.length) : (putAt l i c).length = l.length + 1 := by
  unfold putAt
  simp
  omega
theorem mem_putS {l : List Ch} (hs : Sorted l) {c d : Ch} : d ∈ putS l c ↔ (d ∈ l ∧ d.key ≠ c.key) ∨ d = c := by
  unfold putS
  by_cases h : isAt l c.key = true
  · rw [if_pos h]
    obtain ⟨hlt, h2, h3⟩ := at_some h
    constructor
    · intro hd
      obtain ⟨i, hi⟩ := List.mem_iff_getElem?.1 hd
      by_cases hip : posK c.key l = i
      · subst hip
        rw [List.getElem?_set_self hlt] at hi
        exact .inr (Option.some.inj hi).symm
      · rw [List.getElem?_set_ne hip] at hi
        have hm := List.mem_of_getElem? hi
        refine .inl ⟨hm, fun e => hip ?_⟩
        have h5 := (mem_at hs hm).2.2
        rw [e] at h5
        have hn := sorted_nodup hs
        have hil := (List.getElem?_eq_some_iff.1 hi).1
        rcases Nat.lt_trichotomy (posK c.key l) i with g | g | g
        · have := (List.pairwise_iff_getElem.1 hs) _ _ hlt hil g
          rw [(List.getElem?_eq_some_iff.1 hi).2, (List.getElem?_eq_some_iff.1 h5).2, less_irrefl] at this
          cases this
        · exact g
        · have := (List.pairwise_iff_getElem.1 hs) _ _ hil hlt g
          rw [(List.getElem?_eq_some_iff.1 hi).2, (List.getElem?_eq_some_iff.1 h5).2, less_irrefl] at this
          cases this
    · rintro (⟨hm, hne⟩ | rfl)
      · obtain ⟨i, hi⟩ := List.mem_iff_getElem?.1 hm
        have : posK c.key l ≠ i := by
          intro e
          rw [← e, h2] at hi
          rw [← Option.some.inj hi, h3] at hne
          exact hne rfl
        exact List.mem_of_getElem? (by rw [List.getElem?_set_ne this]; exact hi)
      · exact List.mem_of_getElem? (List.getElem?_set_self hlt)
  · rw [if_neg h, mem_putAt]
    constructor
    · rintro (hm | hm)
      · refine .inl ⟨hm, fun e => h ?_⟩
        rw [← e]; exact (mem_at hs hm).1
      · exact .inr hm
    · rintro (hm | hm)
      · exact .inl hm.1
      · exact .inr hm
theorem putS_len (l : List Ch) (c : Ch) : (putS l c).length = if isAt l c.key then l.length else l.length + 1 := by
  unfold putS
  split
  · simp
  · exact putAt_len _ _ _ (pos_le _ _)
theorem sorted_putS {l : List Ch} (hs : Sorted l) (c : Ch) : Sorted (putS l c) := by
  unfold putS
  split
  · rename_i h
    obtain ⟨_, h2, h3⟩ := at_some h
    exact sorted_set hs c h2 h3.symm
  · rename_i h
    exact sorted_put hs c (by simpa using h)
theorem mem_erase {l : List Ch} (hs : Sorted l) {k : Ky} (h : isAt l k = true) {d : Ch} : d ∈ l.eraseIdx (posK k l) ↔ d ∈ l ∧ d.key ≠ k := by
  obtain ⟨hlt, h2, h3⟩ := at_some h
  rw [List.mem_eraseIdx_iff_getElem?]
  constructor
  · rintro ⟨i, hne, hi⟩
    have hm := List.mem_of_getElem? hi
    refine ⟨hm, fun e => hne ?_⟩
    have h5 := (mem_at hs hm).2.2
    rw [e] at h5
    have hil := (List.getElem?_eq_some_iff.1 hi).1
    rcases Nat.lt_trichotomy (posK k l) i with g | g | g
    · have := (List.pairwise_iff_getElem.1 hs) _ _ hlt hil g
      rw [(List.getElem?_eq_some_iff.1 hi).2, (List.getElem?_eq_some_iff.1 h5).2, less_irrefl] at this
      cases this
    · exact g.symm
    · have := (List.pairwise_iff_getElem.1 hs) _ _ hil hlt g
      rw [(List.getElem?_eq_some_iff.1 hi).2, (List.getElem?_eq_some_iff.1 h5).2, less_irrefl] at this
      cases this
  · rintro ⟨hm, hne⟩
    obtain ⟨i, hi⟩ := List.mem_iff_getElem?.1 hm
    refine ⟨i, fun e => hne ?_, hi⟩
    rw [e, h2] at hi
    rw [← Option.some.inj hi, h3]
theorem sorted_erase {l : List Ch} (hs : Sorted l) (i : Nat) : Sorted (l.eraseIdx i) := hs.sublist (List.eraseIdx_sublist _ _)
/-- two lists in strict order with the same members are one -/
theorem eq_of_order {α : Type} (r : α → α → Bool) (hi : ∀ a, r a a = false) (ht : ∀ a b c, r a b = true → r b c = true → r a c = true) : ∀ {l m : List α}, l.Pairwise (fun a b => r a b = true) → m.Pairwise (fun a b => r a b = true) → l.Perm m → l = m
  | [], m, _, _, hp => by rw [List.Perm.eq_nil hp.symm]
  | a :: l, m, hl, hm, hp => by
    cases m with
    | nil => exact absurd hp.eq_nil (by simp)
    | cons b m =>
      have h1 := List.pairwise_cons.1 hl
      have h2 := List.pairwise_cons.1 hm
      have hab : a = b := by
        have ha : a ∈ b :: m := hp.mem_iff.1 (List.mem_cons_self ..)
        have hb : b ∈ a :: l := hp.mem_iff.2 (List.mem_cons_self ..)
        rcases List.mem_cons.1 ha with e | ha
        · exact e
        rcases List.mem_cons.1 hb with e | hb
        · exact e.symm
        · have h3 := ht _ _ _ (h1.1 b hb) (h2.1 a ha)
          rw [hi] at h3
          cases h3
      subst hab
      rw [eq_of_order r hi ht h1.2 h2.2 ((List.perm_cons a).1 hp)]
/-- the order of pages, and then of keys -/
def lessP (a b : Ch) : Bool := decide (a.place.page < b.place.page) || (decide (a.place.page = b.place.page) && lessK a.key b.key)
theorem lessP_irrefl (a : Ch) : lessP a a = false := by simp [lessP, less_irrefl]
theorem lessP_trans (a b c : Ch) (h1 : lessP a b = true) (h2 : lessP b c = true) : lessP a c = true := by
  simp only [lessP, Bool.or_eq_true, Bool.and_eq_true, decide_eq_true_eq] at h1 h2 ⊢
  rcases h1 with h1 | ⟨h1, h1'⟩ <;> rcases h2 with h2 | ⟨h2, h2'⟩
  · exact .inl (by omega)
  · exact .inl (by omega)
  · exact .inl (by omega)
  · exact .inr ⟨by omega, less_trans h1' h2'⟩
theorem ahead_is (pg : Int) : ∀ (l : List Ch) (i : Nat) (c : Ch), l[i]? = some c → i < aheadP pg l → c.place.page ≤ pg
  | [], _, _, h, _ => by cases h
  | d :: l, i, c, h, hi => by
    unfold aheadP at hi
    by_cases hd : d.place.page ≤ pg
    · rw [if_pos hd] at hi
      cases i with
      | zero => cases h; exact hd
      | succ i => exact ahead_is pg l i c h (by omega)
    · rw [if_neg hd] at hi; omega
theorem ahead_not (pg : Int) : ∀ (l : List Ch) (c : Ch), l[aheadP pg l]? = some c → pg < c.place.page
  | [], _, h => by cases h
  | d :: l, c, h => by
    unfold aheadP at h
    by_cases hd : d.place.page ≤ pg
    · rw [if_pos hd] at h; exact ahead_not pg l c h
    · rw [if_neg hd] at h; cases h; omega
/-- in order of pages and keys; and all keys are less than that of the one that is put -/
theorem sortedP_put {l : List Ch} (hs : l.Pairwise fun a b => lessP a b = true) {c : Ch} (hk : ∀ d ∈ l, lessK d.key c.key = true) : (putAt l (aheadP c.place.page l) c).Pairwise fun a b => lessP a b = true := by
  unfold putAt
  rw [List.pairwise_append, List.pairwise_cons]
  have hA : ∀ a ∈ l.take (aheadP c.place.page l), lessP a c = true := by
    intro a ha
    obtain ⟨j, hj, e⟩ := List.getElem_of_mem ha
    rw [List.length_take] at hj
    rw [List.getElem_take] at e
    have h1 := ahead_is c.place.page l j a (by rw [List.getElem?_eq_getElem (by omega), e]) (by omega)
    simp only [lessP, Bool.or_eq_true, Bool.and_eq_true, decide_eq_true_eq]
    rcases Int.lt_or_eq_of_le h1 with h | h
    · exact .inl h
    · exact .inr ⟨h, hk a (List.mem_of_mem_take ha)⟩
  refine ⟨hs.sublist (List.take_sublist _ _), ⟨fun d hd => ?_, hs.sublist (List.drop_sublist _ _)⟩, fun a ha d hd => ?_⟩
  · obtain ⟨j, hj, e⟩ := List.getElem_of_mem hd
    have hjl : aheadP c.place.page l + j < l.length := by rw [List.length_drop] at hj; omega
    rw [List.getElem_drop] at e
    have hp : aheadP c.place.page l < l.length := by omega
    have h0 := ahead_not c.place.page l _ (List.getElem?_eq_getElem hp)
    have h3 : c.place.page < d.place.page := by
      rcases Nat.eq_zero_or_pos j with hz | hz
      · subst hz
        rw [← e]
        exact h0
      · have := (List.pairwise_iff_getElem.1 hs) _ (aheadP c.place.page l + j) hp hjl (by omega)
        rw [e] at this
        simp only [lessP, Bool.or_eq_true, Bool.and_eq_true, decide_eq_true_eq] at this
        rcases this with h | h
        · omega
        · omega
    simp only [lessP, Bool.or_eq_true, decide_eq_true_eq]
    exact .inl h3
  · rcases List.mem_cons.1 hd with rfl | hd
    · exact hA a ha
    · obtain ⟨i, hi, ei⟩ := List.getElem_of_mem ha
      obtain ⟨j, hj, ej⟩ := List.getElem_of_mem hd
      rw [List.length_take] at hi
      rw [List.length_drop] at hj
      rw [List.getElem_take] at ei
      rw [List.getElem_drop] at ej
      have := (List.pairwise_iff_getElem.1 hs) i (aheadP c.place.page l + j) (by omega) (by omega) (by omega)
      rwa [ei, ej] at this
theorem putAt_perm (l : List Ch) (i : Nat) (c : Ch) : (putAt l i c).Perm (c :: l) := by
  unfold putAt
  have h := List.perm_middle (a := c) (l₁ := l.take i) (l₂ := l.drop i)
  rwa [List.take_append_drop] at h
theorem liveF_is (seg : Int) : ∀ (l acc : List Ch), Sorted l → acc.Pairwise (fun a b => lessP a b = true) → (∀ a ∈ acc, ∀ c ∈ l, lessK a.key c.key = true) →
    (liveF seg acc l).Pairwise (fun a b => lessP a b = true) ∧ (liveF seg acc l).Perm (acc ++ l.filter fun c => decide (c.place.seg = seg))
  | [], acc, _, h, _ => ⟨h, by simp [liveF]⟩
  | c :: l, acc, hl, h, hk => by
    have hl' := List.pairwise_cons.1 hl
    unfold liveF
    by_cases hc : c.place.seg = seg
    · rw [if_pos hc]
      have h1 := sortedP_put h (c := c) (fun d hd => hk d hd c (List.mem_cons_self ..))
      obtain ⟨g1, g2⟩ := liveF_is seg l _ hl'.2 h1 (fun a ha d hd => by
        rcases mem_putAt.1 ha with ha | rfl
        · exact hk a ha d (List.mem_cons_of_mem _ hd)
        · exact hl'.1 d hd)
      refine ⟨g1, g2.trans ?_⟩
      rw [List.filter_cons_of_pos (by simpa using hc)]
      have := ((putAt_perm acc (aheadP c.place.page acc) c).append_right (l.filter fun c => decide (c.place.seg = seg)))
      refine this.trans ?_
      rw [List.cons_append]
      exact List.perm_middle.symm
    · rw [if_neg hc, List.filter_cons_of_neg (by simpa using hc)]
      exact liveF_is seg l acc hl'.2 h (fun a ha d hd => hk a ha d (List.mem_cons_of_mem _ hd))
theorem live_is (seg : Int) {l : List Ch} (hs : Sorted l) : (live seg l).Pairwise (fun a b => lessP a b = true) ∧ (live seg l).Perm (l.filter fun c => decide (c.place.seg = seg)) := by
  have := liveF_is seg l [] hs List.Pairwise.nil (fun a ha => by cases ha)
  simpa [live] using this
/-- whoever has the members of l that are in a segment, in order, has `live` -/
theorem live_eq (seg : Int) {l m : List Ch} (hs : Sorted l) (hm : m.Pairwise fun a b => lessP a b = true) (hp : m.Perm (l.filter fun c => decide (c.place.seg = seg))) : m = live seg l :=
  eq_of_order lessP lessP_irrefl lessP_trans hm (live_is seg hs).1 (hp.trans (live_is seg hs).2.symm)
theorem filter_eq {q : Ch → Bool} {l m : List Ch} (hs : Sorted l) (hm : m.Pairwise fun a b => lessK a.key b.key = true) (hp : m.Perm (l.filter q)) : m = l.filter q :=
  eq_of_order (fun a b : Ch => lessK a.key b.key) (fun a => less_irrefl a.key) (fun _ _ _ => less_trans) hm (hs.sublist List.filter_sublist) hp
/-- one more is taken -/
theorem filter_one {p p' : Ch → Bool} {l : List Ch} (hn : l.Nodup) {c : Ch} (hc : c ∈ l) (h0 : p c = false) (h1 : p' c = true) (h2 : ∀ d ∈ l, d ≠ c → p' d = p d) : (l.filter p').Perm (c :: l.filter p) := by
  induction l with
  | nil => cases hc
  | cons a l ih =>
    have hn' := List.nodup_cons.1 hn
    by_cases ha : a = c
    · subst ha
      rw [List.filter_cons_of_pos h1, List.filter_cons_of_neg (by simp [h0])]
      have : l.filter p' = l.filter p := List.filter_congr (fun d hd => h2 d (List.mem_cons_of_mem _ hd) (fun e => hn'.1 (e ▸ hd)))
      rw [this]
    · have hcl : c ∈ l := (List.mem_cons.1 hc).resolve_left (Ne.symm ha)
      have := ih hn'.2 hcl (fun d hd => h2 d (List.mem_cons_of_mem _ hd))
      by_cases hp : p a = true
      · rw [List.filter_cons_of_pos hp, List.filter_cons_of_pos (by rw [h2 a (List.mem_cons_self ..) ha]; exact hp)]
        exact (this.cons a).trans (List.Perm.swap c a _)
      · rw [List.filter_cons_of_neg hp, List.filter_cons_of_neg (by rw [h2 a (List.mem_cons_self ..) ha]; exact hp)]
        exact this
/-- a store's chunks, as they may be -/
theorem putS_act {l : List Ch} {k : Ky} (h : isAt l k = true) (c : Ch) (hc : c.key = k) : putS l c = l.set (posK k l) c := by
  unfold putS
  rw [hc, if_pos h]
theorem putS_new {l : List Ch} {c : Ch} (h : isAt l c.key = false) : putS l c = putAt l (posK c.key l) c := by
  unfold putS
  rw [h]
  rfl
end Go.StoM

end
section
namespace Go.Own
open Go.RowKit Go.Maps

open Classical in
def rawV : Value → Option (DataW Value × List MemPlace) := fun v => some (.held v, [])
section
variable {P : Program} {kt mt vt : TypeId} {z : Value} {B : Nat} {w0 w : World} {Ps : List Asn} {b n : Nat} {g : Lit → Value}
end
end Go.Own

end
section
namespace Go.Proofs.Ytepbdjgfaljbgaa
open Go.RowKit Go.Own Go.Maps
namespace Sto
open Go.StoM Byt
open Rec (keyC keyC_len)
theorem laidOut : laidOutB Try.prog = true := by kernel_rfl
theorem keyLaw : WideMaps.KeyLaw Try.prog 36 := deep_law_laid laidOut (m := 3) (by omega) (of_decide_eq_true (by kernel_rfl)) (by kernel_rfl) (by kernel_rfl)
theorem keyed : Keyed Try.prog 36 := Keyed.of_law keyLaw
theorem mapM_all {α β : Type} (f : α → Option β) (g : α → β) : ∀ l : List α, (∀ x ∈ l, f x = some (g x)) → l.mapM f = some (l.map g)
  | [], _ => rfl
  | x :: l, h => by
    rw [List.mapM_cons, h x (List.mem_cons_self ..), mapM_all f g l (fun y hy => h y (List.mem_cons_of_mem _ hy))]
    rfl
theorem wf_u8 (c : UInt8) : (Lit.int .u8 (c.toNat : Int)).wf = true := by
  have := c.toNat_lt
  simp [Lit.wf, IntKind.min, IntKind.max, IntKind.signed, IntKind.bits]
  omega
theorem wf_u32 {n : Nat} (h : n < 4294967296) : (Lit.int .u32 (n : Int)).wf = true := by
  simp [Lit.wf, IntKind.min, IntKind.max, IntKind.signed, IntKind.bits]
  omega
theorem lits_sum (d : Nat) (s : List UInt8) (h : s.length = 32) : ∃ ls, Try.prog.keyLits (d + 2) 34 (s.map byteV) = some ls := by
  have hc : Try.prog.cellsOf 34 = 32 := by kernel_rfl
  have hc1 : Try.prog.cellsOf 5 = 1 := by kernel_rfl
  refine ⟨((List.range 32).map fun i => [Lit.int .u8 ((s.getD i 0).toNat : Int)]).flatten, ?_⟩
  unfold Program.keyLits
  simp only [Try.underlying34]
  rw [if_pos (by simp [hc, h]), mapM_all (g := fun i => [Lit.int .u8 ((s.getD i 0).toNat : Int)])]
  · rfl
  · intro i hi
    have hi := List.mem_range.1 hi
    rw [hc1, Nat.mul_one]
    have e : ((s.map byteV).drop i).take 1 = [byteV (s.getD i 0)] := by
      have hil : i < (s.map byteV).length := by simp [h, hi]
      rw [List.drop_eq_getElem_cons hil]
      simp [List.getD, List.getElem?_eq_getElem (show i < s.length by omega)]
    rw [e]
    unfold Program.keyLits byteV
    simp only [Try.underlying5]
    rw [if_pos ⟨trivial, wf_u8 _⟩]
theorem key_some {k : Ky} (h : FitK k) : ∃ kl, keyOf Try.prog 36 (kV k) = some kl := by
  have hu : Try.prog.underlying 36 = some (.struct (Try.prog.fieldsOf 36)) := by kernel_rfl
  have hkt : Try.prog.keyType 36 = true := by kernel_rfl
  have hcells : Try.prog.cellsOf 36 = 33 := by kernel_rfl
  have hcs : Try.prog.cellsOf 34 = 32 := by kernel_rfl
  have hcn : Try.prog.cellsOf 32 = 1 := by kernel_rfl
  obtain ⟨m, hm⟩ : ∃ m, Try.prog.types.size + 1 = m + 4 := ⟨Try.prog.types.size - 3, by kernel_rfl⟩
  obtain ⟨ls, hls⟩ := lits_sum (m + 1) k.sum h.sum
  have hsz : (kC k).length = 33 := kC_len h
  obtain ⟨fs, hfs⟩ : ∃ fs, fs = Try.prog.fieldsOf 36 := ⟨_, rfl⟩
  have hf := Rec.key_fields
  have hall : (Try.prog.fieldsOf 36).all (·.name != "_") = true := by kernel_rfl
  rw [← hfs] at hu hf hall
  clear hfs
  obtain ⟨fl, hfl⟩ : ∃ fl, fl = fs.toList := ⟨_, rfl⟩
  rw [← hfl] at hf
  obtain ⟨f0, f1, hl, o0, t0, o1, t1⟩ : ∃ f0 f1 : Field, fl = [f0, f1] ∧ f0.offset = 0 ∧ f0.type = 34 ∧ f1.offset = 32 ∧ f1.type = 32 := by
    rcases fl with _ | ⟨f0, _ | ⟨f1, _ | ⟨f2, r⟩⟩⟩
    · simp at hf
    · simp at hf
    · simp only [List.map_cons, List.map_nil, List.cons.injEq, Prod.mk.injEq, and_true] at hf
      obtain ⟨⟨n0, t0, o0⟩, n1, t1, o1⟩ := hf
      exact ⟨f0, f1, rfl, o0, t0, o1, t1⟩
    · simp at hf
  have e0 : ((kV k).cells.toList.drop f0.offset).take (Try.prog.cellsOf f0.type) = k.sum.map byteV := by
    rw [o0, t0, hcs]
    show ((k.sum.map byteV ++ [_]).drop 0).take 32 = _
    rw [List.drop_zero, List.take_append_of_le_length (by simp [h.sum]), List.take_of_length_le (by simp [h.sum])]
  have e1 : ((kV k).cells.toList.drop f1.offset).take (Try.prog.cellsOf f1.type) = [.int .u32 (k.n : Int)] := by
    rw [o1, t1, hcn]
    show ((k.sum.map byteV ++ [_]).drop 32).take 1 = _
    rw [List.drop_append_of_le_length (by simp [h.sum]), List.drop_of_length_le (by simp [h.sum])]
    rfl
  have g1 : Try.prog.keyLits (m + 3) f1.type [.int .u32 (k.n : Int)] = some [.int .u32 (k.n : Int)] := by
    rw [t1]
    unfold Program.keyLits
    simp only [Try.underlying32]
    rw [if_pos ⟨trivial, wf_u32 h.n⟩]
  have g0 : Try.prog.keyLits (m + 3) f0.type (k.sum.map byteV) = some ls := by rw [t0]; exact hls
  have gk : Try.prog.keyLits (m + 4) 36 (kV k).cells.toList = some (ls ++ [.int .u32 (k.n : Int)]) := by
    unfold Program.keyLits
    simp only [hu]
    rw [if_pos ⟨by rw [hcells]; exact hsz, hall⟩, ← hfl, hl]
    simp [List.mapM_cons, e0, e1, g0, g1]
  refine ⟨.string (keyBytes (ls ++ [.int .u32 (k.n : Int)])), ?_⟩
  unfold keyOf
  simp only [hu]
  rw [if_pos (by simp [hkt, Value.formed, kV, hu, hcells, hsz]), hm, gk]
  rfl
open Classical in
noncomputable def kLit (k : Ky) : Lit := if h : ∃ kl, keyOf Try.prog 36 (kV k) = some kl then Classical.choose h else .bool true
theorem key_of {k : Ky} (h : FitK k) : keyOf Try.prog 36 (kV k) = some (kLit k) := by
  have h2 := key_some h
  unfold kLit
  rw [dif_pos h2]
  exact Classical.choose_spec h2
theorem isKey {k : Ky} (h : FitK k) : WideAt.IsKeyLit (kLit k) := by
  have h2 := key_of h
  generalize kLit k = kl at h2 ⊢
  exact keyed.key h2
theorem kLit_inj {a b : Ky} (ha : FitK a) (hb : FitK b) (h : kLit a = kLit b) : a = b := by
  have h1 := key_of ha
  rw [h] at h1
  have := keyed.inj h1 (key_of hb)
  unfold kV at this
  simp only [Value.agg.injEq] at this
  exact kC_inj ha hb (by simpa using this)
theorem mapT : Try.prog.underlying 108 = some (.map 36 74) := Try.underlying108
/-- a store's chunks, as they may be -/
structure Ok (l : List Ch) : Prop where
  sorted : Sorted l
  fit : ∀ c ∈ l, Fit c
/-- the map reads as the list -/
structure Reads (D : DataW Value) (l : List Ch) : Prop where
  has : ∀ kl, Maps.has D kl = true ↔ ∃ c ∈ l, kLit c.key = kl
  at_ : ∀ c ∈ l, ∀ zd, D.atKey (kLit c.key) zd = .held (chV c)
  size : Maps.size D = l.length
def ACh (b : Nat) (l : List Ch) : Asn where
  holds S w := (∃ D : DataW Value, w.ownsMap Try.prog 36 rawV b l.length D ∧ Reads D l) ∧ ∀ k, S k ↔ k = b
  keep h gs hd := by
    obtain ⟨⟨D, ⟨es, clock, hb, r⟩, h1⟩, h5⟩ := h
    exact ⟨⟨D, ⟨es, clock, (gs.block _ (lt_of_block hb) (hd _ ((h5 _).2 rfl))).trans hb, r⟩, h1⟩, h5⟩
  lt h k hk := by
    obtain ⟨⟨D, hm, h1⟩, h5⟩ := h
    rw [(h5 k).1 hk]
    exact hm.lt
theorem tight {w : World} {b n : Nat} {D : DataW Value} (h : w.ownsMap Try.prog 36 rawV b n D) {l : List Ch} (hr : Reads D l) : w.ownsMap Try.prog 36 rawV b l.length D := by
  obtain ⟨es, clock, hb, F, _, rfl⟩ := h
  refine ⟨es, clock, hb, F, ?_, rfl⟩
  rw [← hr.size]
  simp [Maps.size, length_sorted]
/-- the chunk with a key, or the zero one -/
noncomputable def getS (l : List Ch) (k : Ky) : Ch := if isAt l k = true then atS l k else zeroCh
theorem getS_fit {l : List Ch} (ok : Ok l) (k : Ky) : Fit (getS l k) := by
  unfold getS
  split
  · rename_i h; exact ok.fit _ (at_mem h).1
  · exact zero_fit
section
variable {B : Nat} {w0 w : World} {Ps : List Asn} {b : Nat} {l : List Ch}
theorem reads_nil : Reads (.map []) [] := ⟨fun kl => by simp [Maps.has], fun c hc => (by cases hc), rfl⟩
theorem mapMakeC (H : Own.St B w0 w Ps) : ∃ w' b, (Instr.makeMap 108 none).run Try.prog w = .ok (.map (some b)) w' ∧ Own.St B w0 w' (ACh b [] :: Ps) :=
  ⟨_, w.heap.size, run_makeMap 108 w, H.new (S' := fun k => k = w.heap.size) (ACh _ []) ⟨⟨.map [], World.ownsMap_made w _ _ _, reads_nil⟩, fun k => Iff.rfl⟩ (((Step.refl (fun _ => False) w).alloc (.map #[] 0)).to (fun k hk => .inr (Nat.le_of_eq hk.symm)))⟩
theorem has_is {D : DataW Value} (hr : Reads D l) (ok : Ok l) {k : Ky} (hk : FitK k) : Maps.has D (kLit k) = isAt l k := by
  cases h : isAt l k
  · cases hh : Maps.has D (kLit k)
    · rfl
    · obtain ⟨c, hc, e⟩ := (hr.has _).1 hh
      have := kLit_inj (ok.fit c hc).key hk e
      rw [(at_iff ok.sorted).2 ⟨c, hc, this⟩] at h
      cases h
  · obtain ⟨c, hc, e⟩ := (at_iff ok.sorted).1 h
    exact (hr.has _).2 ⟨c, hc, by rw [e]⟩
theorem mapLookC (H : Own.St B w0 w Ps) (i : Nat) (hi : Ps[i]? = some (ACh b l)) (ok : Ok l) {k : Ky} (hk : FitK k) :
    (Instr.lookup 108 (.map (some b)) (kV k) true).run Try.prog w = .ok (.tuple #[chV (getS l k), .bool (isAt l k)]) w := by
  obtain ⟨S, ⟨⟨D, hm, hr⟩, _⟩, _⟩ := H.at i hi
  obtain ⟨v, ps, hrun, hv⟩ := hm.look_ok keyed mapT (zeroValue_ch w) (zd := .held (chV zeroCh)) (zp := []) rfl (key_of hk)
  rw [has_is hr ok hk] at hrun
  rw [hrun]
  have e : v = chV (getS l k) := by
    unfold getS
    cases h : isAt l k
    · rw [atKey_of_not_has (by rw [has_is hr ok hk]; exact h)] at hv
      simp only [rawV, Option.some.injEq, Prod.mk.injEq, DataW.held.injEq] at hv
      rw [if_neg (by simp)]
      exact hv.1
    · have h2 := at_mem h
      have h3 := hr.at_ _ h2.1 (.held (chV zeroCh))
      rw [h2.2] at h3
      rw [h3] at hv
      simp only [rawV, Option.some.injEq, Prod.mk.injEq, DataW.held.injEq] at hv
      rw [if_pos rfl]
      exact hv.1
  rw [e]
theorem mapPutC (H : Own.St B w0 w Ps) (i : Nat) (hi : Ps[i]? = some (ACh b l)) (ok : Ok l) (hn : l.length ≤ 1000000) {c : Ch} (hc : Fit c) :
    ∃ w', (Instr.mapUpdate 108 (.map (some b)) (kV c.key) (chV c)).run Try.prog w = .ok () w' ∧ Own.St B w0 w' (Ps.set i (ACh b (putS l c))) := by
  obtain ⟨S, ⟨⟨D, hm, hr⟩, h5⟩, _, put⟩ := H.at i hi
  obtain ⟨w2, hrun2, hm2, g2⟩ := hm.update keyed mapT (by unfold maxLen; omega) (key_of hc.key) (val := chV c) (d := .held (chV c)) (ps := []) rfl
  have ht := hm.tidy keyed
  have hD := ht.isMap
  have hkey : WideAt.IsKeyLit (kLit c.key) := isKey hc.key
  have hr2 : Reads (D.put (kLit c.key) (.held (chV c))) (putS l c) := by
    refine ⟨fun kl => ?_, fun d hd zd => ?_, ?_⟩
    · by_cases hl : kl = kLit c.key
      · rw [hl, has_put_same hD hkey]
        exact ⟨fun _ => ⟨c, (mem_putS ok.sorted).2 (.inr rfl), rfl⟩, fun _ => rfl⟩
      · rw [has_put_other hl, hr.has]
        constructor
        · rintro ⟨d, hd, e⟩
          exact ⟨d, (mem_putS ok.sorted).2 (.inl ⟨hd, fun e2 => hl (by rw [← e, e2])⟩), e⟩
        · rintro ⟨d, hd, e⟩
          rcases (mem_putS ok.sorted).1 hd with h | h
          · exact ⟨d, h.1, e⟩
          · rw [h] at e
            exact absurd e.symm hl
    · rcases (mem_putS ok.sorted).1 hd with h | h
      · have hne : kLit d.key ≠ kLit c.key := fun e => h.2 (kLit_inj (ok.fit d h.1).key hc.key e)
        rw [atKey_put_other hne]
        exact hr.at_ d h.1 zd
      · rw [h]
        exact atKey_put_same hD hkey _ _
    · rw [size_put ht, has_is hr ok hc.key, putS_len, hr.size]
  refine ⟨w2, hrun2, put (fun k => k = b) w2 (ACh b (putS l c)) ⟨⟨_, tight hm2 hr2, hr2⟩, fun k => Iff.rfl⟩ ?_⟩
  exact ⟨g2.os, g2.tape, g2.output, g2.size, fun k hk hn => g2.block k hk (fun e => hn ((h5 k).2 (by cases e; rfl))), fun k hk => .inl ((h5 k).2 hk)⟩
theorem mapDelC (H : Own.St B w0 w Ps) (i : Nat) (hi : Ps[i]? = some (ACh b l)) (ok : Ok l) {k : Ky} (hk : FitK k) (hat : isAt l k = true) (ty : TypeId) :
    ∃ w', (Builtin.delete_ #[108, 36] ty #[.map (some b), kV k]).run Try.prog w = .ok (.tuple #[]) w' ∧ Own.St B w0 w' (Ps.set i (ACh b (l.eraseIdx (posK k l)))) := by
  obtain ⟨S, ⟨⟨D, hm, hr⟩, h5⟩, _, put⟩ := H.at i hi
  obtain ⟨w2, hrun2, hm2, turn⟩ := hm.drop keyed mapT (key_of hk) ty
  have g2 := turn.grown
  have ht := hm.tidy keyed
  have hlt := (at_some hat).1
  have hr2 : Reads (D.del (kLit k)) (l.eraseIdx (posK k l)) := by
    refine ⟨fun kl => ?_, fun d hd zd => ?_, ?_⟩
    · by_cases hl : kl = kLit k
      · rw [hl, has_del_same]
        refine ⟨fun h => (by cases h), ?_⟩
        rintro ⟨d, hd, e⟩
        have h := (mem_erase ok.sorted hat).1 hd
        exact absurd (kLit_inj (ok.fit d h.1).key hk e) h.2
      · rw [has_del_other hl, hr.has]
        constructor
        · rintro ⟨d, hd, e⟩
          exact ⟨d, (mem_erase ok.sorted hat).2 ⟨hd, fun e2 => hl (by rw [← e, e2])⟩, e⟩
        · rintro ⟨d, hd, e⟩
          exact ⟨d, ((mem_erase ok.sorted hat).1 hd).1, e⟩
    · have h := (mem_erase ok.sorted hat).1 hd
      have hne : kLit d.key ≠ kLit k := fun e => h.2 (kLit_inj (ok.fit d h.1).key hk e)
      rw [atKey_del_other hne]
      exact hr.at_ d h.1 zd
    · have h := size_del (k := kLit k) ht
      rw [has_is hr ok hk, hat, hr.size] at h
      rw [List.length_eraseIdx, if_pos hlt]
      simp at h
      omega
  refine ⟨w2, hrun2, put (fun k => k = b) w2 (ACh b (l.eraseIdx (posK k l))) ⟨⟨_, tight hm2 hr2, hr2⟩, fun k => Iff.rfl⟩ ?_⟩
  exact ⟨g2.os, g2.tape, g2.output, g2.size, fun k hk hn => g2.block k hk (fun e => hn ((h5 k).2 (by cases e; rfl))), fun k hk => .inl ((h5 k).2 hk)⟩
theorem mapNilC {k : Ky} (hk : FitK k) (w : World) : (Instr.lookup 108 (.map none) (kV k) true).run Try.prog w = .ok (.tuple #[chV zeroCh, .bool false]) w := by
  have := Maps.look_nil (w := w) true keyed mapT (zeroValue_ch w) (key_of hk)
  simpa using this
end
/-! ### the store -/
/-- the parts: the struct's cell, and the map, if there is one -/
def aParts (p : Nat) (l : List Ch) : Option Nat → List Asn
  | none => [AVals p 110 [.map none]]
  | some b => [AVals p 110 [.map (some b)], ACh b l]
def AS (p : Nat) (l : List Ch) : Asn := AEx (α := { m : Option Nat // m = none → l = [] }) fun m => AJoin (aParts p l m.1)
section
variable {B : Nat} {w0 w : World} {Ps : List Asn} {p : Nat} {l : List Ch}
theorem as_open (h : Own.St B w0 w (AS p l :: Ps)) : ∃ m : Option Nat, (m = none → l = []) ∧ Own.St B w0 w (aParts p l m ++ Ps) := by
  obtain ⟨⟨m, hm⟩, h⟩ := h.openE
  exact ⟨m, hm, h.openJ⟩
theorem as_close {m : Option Nat} (hm : m = none → l = []) (h : Own.St B w0 w (aParts p l m ++ Ps)) : Own.St B w0 w (AS p l :: Ps) :=
  Own.St.closeE (α := { m : Option Nat // m = none → l = [] }) (P := fun m => AJoin (aParts p l m.1)) ⟨m, hm⟩ h.closeJ
/-- what is in the cell, and what a look-up finds -/
theorem as_look (h : Own.St B w0 w (AS p l :: Ps)) (ok : Ok l) {k : Ky} (hk : FitK k) : ∃ m : Option Nat, w.cell? ⟨p, 0, none⟩ = some (.map m) ∧ (Instr.lookup 108 (.map m) (kV k) true).run Try.prog w = .ok (.tuple #[chV (getS l k), .bool (isAt l k)]) w := by
  obtain ⟨m, hm, h⟩ := as_open h
  cases m with
  | none =>
    have e := hm rfl
    subst e
    refine ⟨none, (h.cellV 0 rfl 0 rfl).1, ?_⟩
    have := mapNilC hk w
    simpa [getS, isAt] using this
  | some b => exact ⟨some b, (h.cellV 0 rfl 0 rfl).1, mapLookC h 1 rfl ok hk⟩
end
end Sto
end Go.Proofs.Ytepbdjgfaljbgaa

end
section
namespace Go.Proofs.Ytepbdjgfaljbgaa
open Go.RowKit Go.Own
namespace Sto
open Go.StoM Byt
abbrev zC : List Value := chC zeroCh
theorem new_run {o : Oper} (ho : o.op = .alloc 74) (ρ : Operand → Value) {z : List Value} (hz : (Try.prog.info? 74).bind (·.zero) = some (.agg z.toArray)) (w : World) : (execOp ρ o).run Try.prog w = .ok (.value (.pointer (some ⟨w.heap.size, 0, none⟩))) (w.alloc (.cells z.toArray 74)) := by
  obtain ⟨i, hi, hi2⟩ := Option.bind_eq_some_iff.1 hz
  simp [execOp, ho, Instr.alloc, newVar, zeroValue, typeInfo, hi, hi2, Result.andThen, go_sem]
theorem fld_m {o : Oper} {X : Operand} (ho : o.op = .fieldAddr 110 X 0) {p : Nat} (ρ : Operand → Value) (w : World) (h0 : ρ X = ptr p) : (execOp ρ o).run Try.prog w = .ok (.value (ptr p)) w := by
  simp [execOp, ho, h0, go_sem, add_of]
theorem ld_m {o : Oper} {X : Operand} (ho : o.op = .load 108 X) {a : Addr} {v : Value} (ρ : Operand → Value) {w : World} (hc : w.cell? a = some v) (h0 : ρ X = .pointer (some a)) : (execOp ρ o).run Try.prog w = .ok (.value v) w := by
  simp [execOp, ho, h0, go_sem, hc]
theorem look_ok_exec {o : Oper} {x y : Tmp} {mt : TypeId} (ho : o.op = .lookup mt (.tmp x) (.tmp y) true) {m kv v : Value} {w : World} (hrun : (Instr.lookup mt m kv true).run Try.prog w = .ok v w) (ρ : Operand → Value) (h0 : ρ (.tmp x) = m) (h1 : ρ (.tmp y) = kv) : (execOp ρ o).run Try.prog w = .ok (.value v) w := by
  simp [execOp, ho, h0, h1, hrun, go_sem]
section
variable {B : Nat} {w0 w : World} {Ps : List Asn} {p : Nat} {l : List Ch}
/-- a chunk is stored in a variable of one's own -/
theorem ch_store (H : Own.St B w0 w Ps) (i : Nat) {b : Nat} {vs : List Value} (hi : Ps[i]? = some (AVals b 74 vs)) (hv : vs.length = 37) (cs : List Value) (hc : cs.length = 37) :
    w.there b 0 cs.toArray.size ∧ Own.St B w0 (w.setCells b 0 cs.toArray.toList) (Ps.set i (AVals b 74 cs)) := by
  refine ⟨H.thereV i hi (by rw [List.size_toArray, hc, hv]; exact Nat.le_refl _), ?_⟩
  have h := Own.St.setAll i cs 0 w Ps vs H hi (by rw [hc, hv])
  simpa using h
/-- the map's value in the cell, and what a look-up finds, in every later world -/
theorem as_looks (H : Own.St B w0 w (AS p l :: Ps)) (ok : Ok l) {k : Ky} (hk : FitK k) : ∃ m : Option Nat, ∀ wx, Below w.heap.size w wx → wx.cell? ⟨p, 0, none⟩ = some (.map m) ∧ (Instr.lookup 108 (.map m) (kV k) true).run Try.prog wx = .ok (.tuple #[chV (getS l k), .bool (isAt l k)]) wx := by
  obtain ⟨m, h1, h2⟩ := as_look H ok hk
  refine ⟨m, fun wx hwx => ?_⟩
  have c := cellLater' h1 hwx
  obtain ⟨m', h3, h4⟩ := as_look (H.later hwx) ok hk
  rw [c] at h3
  cases h3
  exact ⟨c, h4⟩
theorem zC_len : zC.length = 37 := chC_len zero_fit.key
set_option maxRecDepth 10000 in
set_option maxHeartbeats 3200000 in
theorem get_any (H : Own.St B w0 w (AS p l :: Ps)) (ok : Ok l) {k : Ky} (hk : FitK k) : Calls Try.prog 36 #[ptr p, kV k] w fun e w' => e = .returned (.tuple #[chV (getS l k), .bool (isAt l k)]) ∧ Below w.heap.size w w' := by
  obtain ⟨m, hm⟩ := as_looks H ok hk
  obtain ⟨kc, hkc⟩ : ∃ c, c = kC k := ⟨_, rfl⟩
  obtain ⟨F, hF⟩ : ∃ c, c = chC (getS l k) := ⟨_, rfl⟩
  obtain ⟨is, his⟩ : ∃ c, c = isAt l k := ⟨_, rfl⟩
  have FL : Hid (F.length = 37) := by show _ = _; rw [hF]; exact chC_len (getS_fit ok k).key
  have FO : Hid (F.toArray.all (·.oneCell') = true) := by show _ = true; rw [hF]; exact all_oneCell_toArray (chC_one _)
  have KL : Hid (kc.length = 33) := by show _ = _; rw [hkc]; exact kC_len hk
  have HM : Hid (∀ wx, Below w.heap.size w wx → wx.cell? ⟨p, 0, none⟩ = some (.map m) ∧ (Instr.lookup 108 (.map m) (.agg kc.toArray) true).run Try.prog wx = .ok (.tuple #[.agg F.toArray, .bool is]) wx) := by rw [hkc, hF, his]; exact hm
  show Calls Try.prog _ #[_, .agg (kC k).toArray] w fun e w' => e = .returned (.tuple #[.agg (chC (getS l k)).toArray, .bool (isAt l k)]) ∧ _
  rw [← hkc, ← hF, ← his]
  obtain ⟨z, hz⟩ : ∃ z, z = zC := ⟨_, rfl⟩
  have ZL : Hid (z.length = 37) := by show z.length = 37; rw [hz]; exact zC_len
  have ZP : Hid ((Try.prog.info? 74).bind (·.zero) = some (.agg z.toArray)) := by rw [hz]; exact zero_ch
  have hb1 := (Own.St.start w).boxV 36 kc
  obtain ⟨bk, hbk⟩ : ∃ b, b = w.heap.size := ⟨_, rfl⟩
  obtain ⟨W1, hW1⟩ : ∃ W, W = w.alloc (.cells kc.toArray 36) := ⟨_, rfl⟩
  rw [← hW1] at hb1
  have hb2 := hb1.boxV 74 z
  obtain ⟨b4, hb4⟩ : ∃ b, b = W1.heap.size := ⟨_, rfl⟩
  obtain ⟨W2, hW2⟩ : ∃ W, W = W1.alloc (.cells z.toArray 74) := ⟨_, rfl⟩
  rw [← hb4, ← hW2] at hb2
  have H2 := Lib.hid hb2
  have E1 := hW1.symm
  have HB4 := Lib.hid hb4
  have HW2 := Lib.hid hW2
  have RK : Hid (∀ wx, Below W2.heap.size W2 wx → wx.rangeAt w.heap.size 0 kc) := fun wx h j v hv => by rw [Nat.zero_add]; exact ((H2.out.later h).cellV 1 rfl j hv).1
  have h3 := H2.out.drew.boxV 74 z
  obtain ⟨b6, hb6⟩ : ∃ b, b = W2.heap.size := ⟨_, rfl⟩
  have hb6' : W2.drew.heap.size = b6 := by rw [hb6]; rfl
  rw [hb6'] at h3
  obtain ⟨W3, hW3⟩ : ∃ W, W = W2.drew.alloc (.cells z.toArray 74) := ⟨_, rfl⟩
  rw [← hW3] at h3
  have hs := ch_store h3 0 rfl ZL.out F FL.out
  obtain ⟨W4, hW4⟩ : ∃ W, W = W3.setCells b6 0 F.toArray.toList := ⟨_, rfl⟩
  rw [← hW4] at hs
  have hr := hs.2.boxRange 0 rfl
  have hs2 := ch_store hs.2 1 rfl ZL.out F FL.out
  obtain ⟨W5, hW5⟩ : ∃ W, W = W4.setCells b4 0 F.toArray.toList := ⟨_, rfl⟩
  rw [← hW5] at hs2
  have IW := Lib.hid (info_chA F FL.out)
  have E3 : Hid (∀ o : Oper, o.op = .alloc 74 → ∀ ρ, (execOp ρ o).run Try.prog W2.drew = .ok (.value (.pointer (some ⟨b6, 0, none⟩))) W3) := fun o ho ρ => by rw [hW3, ← hb6']; exact new_run ho ρ ZP.out _
  have E4 : Hid ((Instr.storeAt 74 (.pointer (some ⟨b6, 0, none⟩)) (.agg F.toArray)).run Try.prog W3 = .ok () W4) := by
    rw [hW4]
    exact run_storeAt_mid W3 b6 0 74 F.toArray hs.1 IW.out FO.out
  have CF : Hid (∀ wx : World, (wx = W2.drew ∨ wx = W3 ∨ wx = W4) → Below w.heap.size w wx ∧ wx.rangeAt w.heap.size 0 kc) := by
    rintro wx (rfl | rfl | rfl)
    · exact ⟨H2.out.drew.below, H2.out.drew.boxRange 1 rfl⟩
    · exact ⟨h3.below, h3.boxRange 2 rfl⟩
    · exact ⟨hs.2.below, hs.2.boxRange 2 rfl⟩
  have T2 := Lib.hid hs2.1
  have RG := Lib.hid hr
  have H5 := Lib.hid hs2.2
  have HW5 := Lib.hid hW5
  have CJ : Hid (∀ (j : Nat) (wx : World), (wx = match j with | 0 => W2.drew | 1 => W3 | _ => W4) → Below w.heap.size w wx ∧ wx.rangeAt w.heap.size 0 kc) := by
    intro j wx h
    refine CF.out wx ?_
    match j, h with
    | 0, h => exact .inl h
    | 1, h => exact .inr (.inl h)
    | (j + 2), h => exact .inr (.inr h)
  clear hm hkc hF his hz hb1 hbk hW1 hb2 hb4 hW2 ok hk H hs hs2 hr hW4 hW5 h3 hW3 hb6 hb6'
  go_enter Try.func36, Try.ntmps36
  go_wp2_with (refine Own.wpList_allocZ rfl 74 rfl z.toArray ZP.out ?_; rw [← HB4.out, ← HW2.out])
  refine wp_chain_list [9, 10] (fun j wx => wx = match j with | 0 => W2.drew | 1 => W3 | _ => W4) (by kernel_rfl) (by kernel_rfl) (by kernel_rfl) (by kernel_rfl) rfl ?_
  refine wpG_move (ptr p) rfl (by kernel_rfl) (by kernel_rfl) (by kernel_rfl) ?_
  refine wpG_run1 (x := .tmp 12) (ptr p) (ptr p) (by kernel_rfl) (by kernel_rfl) (by kernel_rfl) (by kernel_rfl) (fun j wx ρ hC h0 hc => by simp [go_sem, h0]) ?_
  refine wpG_run1 (x := .tmp 13) (ptr p) (ptr p) (by kernel_rfl) (by kernel_rfl) (by kernel_rfl) (by kernel_rfl) (fun j wx ρ hC h0 hc => fld_m rfl ρ wx h0) ?_
  refine wpG_run1 (x := .tmp 14) (ptr p) (.map m) (by kernel_rfl) (by kernel_rfl) (by kernel_rfl) (by kernel_rfl) (fun j wx ρ hC h0 hc => ld_m rfl ρ (HM.out wx (CJ.out j wx hC).1).1 h0) ?_
  refine wpG_run1 (x := .tmp 3) (.pointer (some ⟨w.heap.size, 0, none⟩)) (.agg kc.toArray) (by kernel_rfl) (by kernel_rfl) (by kernel_rfl) (by kernel_rfl) (fun j wx ρ hC h0 hc => Rec.load_key kc KL.out rfl ρ (CJ.out j wx hC).2 h0) ?_
  refine wpG_run2 (x := .tmp 15) (y := .tmp 16) (.map m) (.agg kc.toArray) (.tuple #[.agg F.toArray, .bool is]) (by kernel_rfl) (by kernel_rfl) (by kernel_rfl) (by kernel_rfl) (by kernel_rfl) (fun j wx ρ hC h0 h1 hc => look_ok_exec rfl (HM.out wx (CJ.out j wx hC).1).2 ρ h0 h1) ?_
  refine wpG_move (.tuple #[.agg F.toArray, .bool is]) rfl (by kernel_rfl) (by kernel_rfl) (by kernel_rfl) ?_
  refine wpG_run1 (x := .tmp 11) (.tuple #[.agg F.toArray, .bool is]) (.agg F.toArray) (by kernel_rfl) (by kernel_rfl) (by kernel_rfl) (by kernel_rfl) (fun j wx ρ hC h0 hc => by simp [go_sem, h0]) ?_
  refine wpG_run1 (x := .tmp 11) (.tuple #[.agg F.toArray, .bool is]) (.bool is) (by kernel_rfl) (by kernel_rfl) (by kernel_rfl) (by kernel_rfl) (fun j wx ρ hC h0 hc => by simp [go_sem, h0]) ?_
  refine wpG_op 0 (.pointer (some ⟨b6, 0, none⟩)) _ (.inl rfl) (by kernel_rfl) (by kernel_rfl) (by kernel_rfl) (by kernel_rfl) (by kernel_rfl) (fun wx hC => ⟨W3, by subst hC; exact E3.out _ rfl _, rfl⟩) ?_
  refine wpG_op 1 undef _ (.inr ⟨rfl, rfl⟩) (by kernel_rfl) (by kernel_rfl) (by kernel_rfl) (by kernel_rfl) (by kernel_rfl) (fun wx hC => ⟨W4, by subst hC; exact storeAt_E (a := .pointer (some ⟨b6, 0, none⟩)) (v := .agg F.toArray) rfl (by kernel_rfl) (by kernel_rfl) E4.out, rfl⟩) ?_
  refine wpG_assign (.bool is) rfl (by kernel_rfl) (by kernel_rfl) (by kernel_rfl) ?_
  refine wpG_end (fun w9 hw9 => ?_)
  obtain rfl : w9 = W4 := hw9
  simp only [setL, List.set_cons_zero, List.set_cons_succ]
  clear E3 E4 CF CJ HM HW2 HB4 ZP ZL KL E1 RK H2
  go_wp2_with (first
    | (refine wpList_val rfl (load_ch F FL.out rfl _ (b := b6) (k := 0) RG.out rfl) ?_)
    | (refine wpList_store_mid rfl 74 (.tmp 4) (.tmp 20) rfl b4 0 F.toArray rfl rfl T2.out IW.out FO.out ?_; rw [← HW5.out]))
  refine bodyPost_ret (results_cell_two rfl _ _ b4 74 _ (0, 0) _ _ rfl rfl (H5.out.rowV 1 rfl) Try.underlying74 rfl (info_ch F FL.out)) rfl ?_
  exact ⟨rfl, H5.out.below⟩
end
end Sto
end Go.Proofs.Ytepbdjgfaljbgaa

end
section
namespace Go.Proofs.Ytepbdjgfaljbgaa
open Go.RowKit Go.Own Go.Maps
namespace Sto
open Go.StoM Byt
theorem boxy_key : Boxy Try.prog 36 33 := boxy_of (kC zeroCh.key).toArray (by kernel_rfl) (by kernel_rfl) (by kernel_rfl)
theorem fld_k0 {o : Oper} {X : Operand} (ho : o.op = .fieldAddr 74 X 0) {p : Nat} (ρ : Operand → Value) (w : World) (h0 : ρ X = ptr p) : (execOp ρ o).run Try.prog w = .ok (.value (ptr p)) w := by
  simp [execOp, ho, h0, go_sem, add_of]
theorem ok_put {l : List Ch} (ok : Ok l) {c : Ch} (hc : Fit c) : Ok (putS l c) :=
  ⟨sorted_putS ok.sorted c, fun d hd => by
    rcases (mem_putS ok.sorted).1 hd with h | h
    · exact ok.fit d h.1
    · rw [h]; exact hc⟩
theorem eqlMapIn {P : Program} (w : World) (d : Nat) (t k e : TypeId) (m : Option Nat) (h : P.underlying t = some (.map k e)) : (Op.equalIn (d + 1) t (.map m) (.map none)).run P w = .ok m.isNone w := by
  cases m <;> simp [Op.equalIn, run_underlying h]
theorem eqlMap {P : Program} (w : World) (t k e : TypeId) (m : Option Nat) (h : P.underlying t = some (.map k e)) : (binOp .eql t (.map m) (.map none)).run P w = .ok (.bool m.isNone) w := by
  have h2 : (Op.equal t (.map m) (.map none)).run P w = .ok m.isNone w := eqlMapIn w 9999 t k e m h
  simp [binOp, h2]
theorem ok_nil : Ok [] := ⟨List.Pairwise.nil, fun c hc => by cases hc⟩
section
variable {B : Nat} {w0 w : World} {Ps : List Asn} {p : Nat} {l : List Ch}
theorem new_any (H : Own.St B w0 w Ps) : Calls Try.prog 32 #[] w fun e w' => ∃ p, e = .returned (ptr p) ∧ Own.St B w0 w' (AS p [] :: Ps) := by
  have h := H.boxV 110 [.map none]
  have H1 : Hid (Own.St B w0 (w.alloc (.cells #[.map none] 110)) (AS w.heap.size [] :: Ps)) := as_close (m := none) (fun _ => rfl) h
  clear h H
  go_enter Try.func32, Try.ntmps32
  go_wp2
  go_ret
  exact ⟨_, rfl, H1.out⟩
set_option maxRecDepth 10000 in
set_option maxHeartbeats 3200000 in
theorem put_any (H : Own.St B w0 w (AS p l :: Ps)) (ok : Ok l) (hn : l.length ≤ 1000000) {c : Ch} (hc : Fit c) : Calls Try.prog 49 #[ptr p, chV c] w fun e w' => e = .returned (.tuple #[]) ∧ Own.St B w0 w' (AS p (putS l c) :: Ps) := by
  obtain ⟨cs, hcs⟩ : ∃ x, x = chC c := ⟨_, rfl⟩
  obtain ⟨kc, hkc⟩ : ∃ x, x = kC c.key := ⟨_, rfl⟩
  have CL : Hid (cs.length = 37) := by show _ = _; rw [hcs]; exact chC_len hc.key
  have KL : Hid (kc.length = 33) := by show _ = _; rw [hkc]; exact kC_len hc.key
  obtain ⟨bc, hbc⟩ : ∃ b, b = w.heap.size := ⟨_, rfl⟩
  have KR : Hid (∀ {Q1 : List Asn} (wx : World), Own.St B w0 wx (AVals bc 74 cs :: Q1) → wx.rangeAt bc 0 kc) := fun wx h j v hv => by
    rw [Nat.zero_add]
    exact (h.cellV 0 rfl j (by rw [hcs]; exact chC_key hc.key j v (by rw [← hkc]; exact hv))).1
  have MP : Hid (∀ {b : Nat} (wx : World), Own.St B w0 wx (AVals bc 74 cs :: AVals p 110 [.map (some b)] :: ACh b l :: Ps) → ∃ w', (Instr.mapUpdate 108 (.map (some b)) (.agg kc.toArray) (.agg cs.toArray)).run Try.prog wx = .ok () w' ∧ Own.St B w0 w' (AS p (putS l c) :: Ps)) := by
    intro b wx h
    obtain ⟨w', hr, h2⟩ := mapPutC h 2 rfl ok hn hc
    rw [hkc, hcs]
    refine ⟨w', hr, as_close (m := some b) (fun h => by cases h) ?_⟩
    simp only [List.set_cons_zero, List.set_cons_succ] at h2
    exact h2.drop 1
  show Calls Try.prog _ #[_, .agg (chC c).toArray] w _
  rw [← hcs]
  obtain ⟨m, hm, h⟩ := as_open H
  have hB := h.boxV 74 cs
  obtain ⟨W1, hW1⟩ : ∃ W, W = w.alloc (.cells cs.toArray 74) := ⟨_, rfl⟩
  rw [← hW1, ← hbc] at hB
  have E1 := hW1.symm
  have EB := hbc.symm
  clear hcs hkc hc ok hn H h hW1 hbc
  cases m with
  | some b =>
    have H3 : Hid (Own.St B w0 W1 (AVals bc 74 cs :: AVals p 110 [.map (some b)] :: ACh b l :: Ps)) := hB
    have c0 := (H3.out.cellV 1 rfl 0 rfl).1
    have EQ : (binOp .eql 108 (.map (some b)) (.map none)).run Try.prog W1 = .ok (.bool false) W1 := eqlMap W1 _ _ _ (some b) mapT
    clear hB hm
    go_enter Try.func49, Try.ntmps49
    go_wp2_with (fail)
    refine wp_laxT_list 7 (by kernel_rfl) (by kernel_rfl) (by kernel_rfl) (by kernel_rfl) (by kernel_rfl) ?_
    simp only [List.take_succ_cons, List.take_zero, List.drop_succ_cons, List.drop_zero]
    refine wpL_move (ptr p) rfl (by kernel_rfl) (by kernel_rfl) (by kernel_rfl) (by kernel_rfl) ?_
    refine wpL_run1 (x := .tmp 13) (ptr p) (ptr p) (by kernel_rfl) (by kernel_rfl) (by kernel_rfl) (by kernel_rfl) (by kernel_rfl) (fun wx ρ hwx h0 hc => by simp [go_sem, h0]) ?_
    refine wpL_run1 (x := .tmp 14) (ptr p) (ptr p) (by kernel_rfl) (by kernel_rfl) (by kernel_rfl) (by kernel_rfl) (by kernel_rfl) (fun wx ρ hwx h0 hc => fld_m rfl ρ wx h0) ?_
    refine wpL_run1 (x := .tmp 15) (ptr p) (.map (some b)) (by kernel_rfl) (by kernel_rfl) (by kernel_rfl) (by kernel_rfl) (by kernel_rfl) (fun wx ρ hwx h0 hc => ld_m rfl ρ ((H3.out.later hwx).cellV 1 rfl 0 rfl).1 h0) ?_
    refine wpL_run1 (x := .tmp 3) (ptr bc) (ptr bc) (by kernel_rfl) (by kernel_rfl) (by kernel_rfl) (by kernel_rfl) (by kernel_rfl) (fun wx ρ hwx h0 hc => fld_k0 rfl ρ wx h0) ?_
    refine wpL_run1 (x := .tmp 17) (ptr bc) (.agg kc.toArray) (by kernel_rfl) (by kernel_rfl) (by kernel_rfl) (by kernel_rfl) (by kernel_rfl) (fun wx ρ hwx h0 hc => Rec.load_key kc KL.out rfl ρ (KR.out wx (H3.out.later hwx)) h0) ?_
    refine wpL_run1 (x := .tmp 3) (ptr bc) (.agg cs.toArray) (by kernel_rfl) (by kernel_rfl) (by kernel_rfl) (by kernel_rfl) (by kernel_rfl) (fun wx ρ hwx h0 hc => load_ch cs CL.out rfl ρ ((H3.out.later hwx).boxRange 0 rfl) h0) ?_
    refine wpL_end (by kernel_rfl) (fun w4 hw4 => ?_)
    simp only [FinL, setL, List.set_cons_zero, List.set_cons_succ]
    obtain ⟨w5, e5, h5⟩ := MP.out w4 (H3.out.later hw4)
    have H5 := Lib.hid h5
    clear h5 hw4 H3 MP KR KL CL
    go_wp2
    go_end0
    exact ⟨rfl, H5.out⟩
  | none =>
    have hl := hm rfl
    subst hl
    have H2 : Hid (Own.St B w0 W1 (AVals bc 74 cs :: AVals p 110 [.map none] :: Ps)) := hB
    have c0 := (H2.out.cellV 1 rfl 0 rfl).1
    obtain ⟨w2, b, e2, h2⟩ := mapMakeC H2.out
    have c1 := h2.cellV 2 rfl 0 rfl
    obtain ⟨c1, c2⟩ := c1
    have h3 := h2.storeV 2 rfl 0 (.map (some b))
    simp only [List.set_cons_zero, List.set_cons_succ] at h3
    obtain ⟨W3, hW3⟩ : ∃ W, W = w2.setCell ⟨p, 0, none⟩ (.map (some b)) := ⟨_, rfl⟩
    rw [← hW3] at h3
    have E3 := hW3.symm
    have H3 : Hid (Own.St B w0 W3 (AVals bc 74 cs :: AVals p 110 [.map (some b)] :: ACh b [] :: Ps)) := h3.perm (by
      refine (List.Perm.swap _ _ _).trans ?_
      exact (List.Perm.swap _ _ _).cons _)
    have EQ : (binOp .eql 108 (.map none) (.map none)).run Try.prog W1 = .ok (.bool true) W1 := eqlMap W1 _ _ _ none mapT
    clear hB hm h2 h3 hW3 H2
    go_enter Try.func49, Try.ntmps49
    go_wp2_with (fail)
    refine wp_laxT_list 7 (by kernel_rfl) (by kernel_rfl) (by kernel_rfl) (by kernel_rfl) (by kernel_rfl) ?_
    simp only [List.take_succ_cons, List.take_zero, List.drop_succ_cons, List.drop_zero]
    refine wpL_move (ptr p) rfl (by kernel_rfl) (by kernel_rfl) (by kernel_rfl) (by kernel_rfl) ?_
    refine wpL_run1 (x := .tmp 13) (ptr p) (ptr p) (by kernel_rfl) (by kernel_rfl) (by kernel_rfl) (by kernel_rfl) (by kernel_rfl) (fun wx ρ hwx h0 hc => by simp [go_sem, h0]) ?_
    refine wpL_run1 (x := .tmp 14) (ptr p) (ptr p) (by kernel_rfl) (by kernel_rfl) (by kernel_rfl) (by kernel_rfl) (by kernel_rfl) (fun wx ρ hwx h0 hc => fld_m rfl ρ wx h0) ?_
    refine wpL_run1 (x := .tmp 15) (ptr p) (.map (some b)) (by kernel_rfl) (by kernel_rfl) (by kernel_rfl) (by kernel_rfl) (by kernel_rfl) (fun wx ρ hwx h0 hc => ld_m rfl ρ ((H3.out.later hwx).cellV 1 rfl 0 rfl).1 h0) ?_
    refine wpL_run1 (x := .tmp 3) (ptr bc) (ptr bc) (by kernel_rfl) (by kernel_rfl) (by kernel_rfl) (by kernel_rfl) (by kernel_rfl) (fun wx ρ hwx h0 hc => fld_k0 rfl ρ wx h0) ?_
    refine wpL_run1 (x := .tmp 17) (ptr bc) (.agg kc.toArray) (by kernel_rfl) (by kernel_rfl) (by kernel_rfl) (by kernel_rfl) (by kernel_rfl) (fun wx ρ hwx h0 hc => Rec.load_key kc KL.out rfl ρ (KR.out wx (H3.out.later hwx)) h0) ?_
    refine wpL_run1 (x := .tmp 3) (ptr bc) (.agg cs.toArray) (by kernel_rfl) (by kernel_rfl) (by kernel_rfl) (by kernel_rfl) (by kernel_rfl) (fun wx ρ hwx h0 hc => load_ch cs CL.out rfl ρ ((H3.out.later hwx).boxRange 0 rfl) h0) ?_
    refine wpL_end (by kernel_rfl) (fun w4 hw4 => ?_)
    simp only [FinL, setL, List.set_cons_zero, List.set_cons_succ]
    obtain ⟨w5, e5, h5⟩ := MP.out w4 (H3.out.later hw4)
    have H5 := Lib.hid h5
    clear h5 hw4 H3 MP KR KL CL
    go_wp2
    go_end0
    exact ⟨rfl, H5.out⟩
end
end Sto
end Go.Proofs.Ytepbdjgfaljbgaa

end
section
namespace Go.Proofs.Ytepbdjgfaljbgaa
open Go.RowKit Go.Own Go.Maps
namespace Sto
open Go.StoM Byt
theorem built_ch0 (f : Nat → Value) (a b c d : Int) : Try.prog.built 74 [(0, .agg ((List.range 33).map f).toArray), (1, .agg #[iS a, iS b, iS c]), (2, iS d)] = some ((List.range 33).map f ++ [iS a, iS b, iS c, iS d]).toArray := by kernel_rfl
theorem built_chk (kc : List Value) (h : kc.length = 33) (a b c d : Int) : Try.prog.built 74 [(0, .agg kc.toArray), (1, .agg #[iS a, iS b, iS c]), (2, iS d)] = some (kc ++ [iS a, iS b, iS c, iS d]).toArray := by
  have hrm : (List.range 33).map (fun i => kc.getD i undef) = kc := by
    apply List.ext_getElem
    · simp [h]
    · intro i h1 h2
      simp [List.getD, h2]
  have h := built_ch0 (fun i => kc.getD i undef) a b c d
  rw [hrm] at h
  exact h
def wR (c : Ch) (x : Int) : Ch := ⟨c.key, c.place, x⟩
def wP (c : Ch) (q : Pl) : Ch := ⟨c.key, q, c.refs⟩
theorem getS_at {l : List Ch} {k : Ky} (h : isAt l k = true) : getS l k = atS l k := by unfold getS; rw [if_pos h]
theorem chC_set_refs {c : Ch} (h : FitK c.key) (x : Int) : (chC c).set 36 (iS x) = chC (wR c x) := by
  unfold chC
  rw [List.set_append_right _ _ (by rw [kC_len h]; omega), kC_len h]
  rfl
theorem chC_set3 {c : Ch} (h : FitK c.key) (a b d : Int) : (((chC c).set 33 (.int .i64 a)).set 34 (.int .i64 b)).set 35 (.int .i64 d) = chC (wP c ⟨a, b, d⟩) := by
  unfold chC
  have hk := kC_len h
  rw [List.set_append_right _ _ (by omega), List.set_append_right _ _ (by omega), List.set_append_right _ _ (by omega), hk]
  rfl
theorem wpList_del {P : Program} {ops : Array Oper} {rest : List Oper} {o : Oper} {a : Go.Act} {w w' : World} {Q : Exit → Go.Act → World → Prop} {t k : TypeId} (hgd : o.guard = none) (m x : Operand) (ho : o.op = .call { callee := .builtin .delete, args := #[m, x], argTypes := #[t, k] }) {vm vx : Value} (hm : a.eval m = vm) (hx : a.eval x = vx)
    (hrun : (Builtin.delete_ #[t, k] o.type #[vm, vx]).run P w = .ok (.tuple #[]) w') (h : wpList P ops Q rest (a.put o.dst (.tuple #[])) w') : wpList P ops Q (o :: rest) a w := by
  refine wpList_plain hgd fun K hK => ?_
  unfold Oper.wp
  simp [execOp, ho, resolve, invoke, builtin, hm, hx, hrun, Result.andThen]
  exact hK _ _ h
theorem addS_fst (l : List Ch) (k : Ky) (q : Pl) : (addS l k q).1 = if isAt l k = true then l else putS l ⟨k, q, 1⟩ := by
  unfold addS
  cases h : isAt l k
  · rw [putS_new (c := ⟨k, q, 1⟩) h]; rfl
  · rfl
theorem addS_snd (l : List Ch) (k : Ky) (q : Pl) : (addS l k q).2 = if isAt l k = true then 3 else 0 := by
  unfold addS
  cases isAt l k <;> rfl
theorem refS_yes {l : List Ch} {k : Ky} (h : isAt l k = true) : refS l k = (putS l (wR (getS l k) ((getS l k).refs + 1)), 0) := by
  unfold refS
  have e := putS_act h (wR (atS l k) ((atS l k).refs + 1)) (at_mem h).2
  rw [if_pos h, getS_at h, e]
  rfl
theorem refS_no {l : List Ch} {k : Ky} (h : isAt l k = false) : refS l k = (l, 2) := by unfold refS; rw [h]; rfl
theorem moveS_yes {l : List Ch} {k : Ky} (h : isAt l k = true) (q : Pl) : moveS l k q = (putS l (wP (getS l k) q), 0) := by
  unfold moveS
  have e := putS_act h (wP (atS l k) q) (at_mem h).2
  rw [if_pos h, getS_at h, e]
  rfl
theorem moveS_no {l : List Ch} {k : Ky} (h : isAt l k = false) (q : Pl) : moveS l k q = (l, 2) := by unfold moveS; rw [h]; rfl
theorem unrefS_no {l : List Ch} {k : Ky} (h : isAt l k = false) : unrefS l k = (l, false, 2) := by unfold unrefS; rw [h]; rfl
theorem unrefS_more {l : List Ch} {k : Ky} (h : isAt l k = true) (h2 : (getS l k).refs - 1 > 0) : unrefS l k = (putS l (wR (getS l k) ((getS l k).refs - 1)), false, 0) := by
  unfold unrefS
  rw [if_pos h, getS_at h] at *
  have e := putS_act h (wR (atS l k) ((atS l k).refs - 1)) (at_mem h).2
  rw [if_pos h2, e]
  rfl
theorem unrefS_last {l : List Ch} {k : Ky} (h : isAt l k = true) (h2 : ¬ (getS l k).refs - 1 > 0) : unrefS l k = (l.eraseIdx (posK k l), true, 0) := by
  unfold unrefS
  rw [getS_at h] at h2
  rw [if_pos h, if_neg h2]
theorem rot2 (a b c : Asn) (Ps : List Asn) : (a :: b :: c :: Ps).Perm (c :: a :: b :: Ps) := ((List.Perm.swap c b Ps).cons a).trans (List.Perm.swap c a _)
theorem rot3 (a b c d : Asn) (Ps : List Asn) : (a :: b :: c :: d :: Ps).Perm (d :: a :: b :: c :: Ps) := ((rot2 b c d Ps).cons a).trans (List.Perm.swap d a _)
theorem tail2 {B : Nat} {w0 w : World} {a b c : Asn} {Ps : List Asn} (h : Own.St B w0 w (c :: a :: b :: Ps)) : Own.St B w0 w (c :: Ps) := (h.drop2).drop2
theorem tail3 {B : Nat} {w0 w : World} {a b c d : Asn} {Ps : List Asn} (h : Own.St B w0 w (d :: a :: b :: c :: Ps)) : Own.St B w0 w (d :: Ps) := (h.drop2).drop2.drop2
section
variable {B : Nat} {w0 w : World} {Ps : List Asn} {p : Nat} {l : List Ch}
set_option maxRecDepth 10000 in
set_option maxHeartbeats 3200000 in
theorem add_any (H : Own.St B w0 w (AS p l :: Ps)) (ok : Ok l) (hn : l.length ≤ 1000000) {k : Ky} (hk : FitK k) {q : Pl} (hq : FitP q) : Calls Try.prog 46 #[ptr p, kV k, pV q] w fun e w' => e = .returned (errS (addS l k q).2) ∧ Own.St B w0 w' (AS p (addS l k q).1 :: Ps) := by
  obtain ⟨kc, hkc⟩ : ∃ c, c = kC k := ⟨_, rfl⟩
  obtain ⟨F, hF⟩ : ∃ c, c = chC (getS l k) := ⟨_, rfl⟩
  have FL : Hid (F.length = 37) := by show _ = _; rw [hF]; exact chC_len (getS_fit ok k).key
  have FO : Hid (∀ u ∈ F, u.oneCell' = true) := by show ∀ u ∈ F, _; rw [hF]; exact chC_one _
  have KL : Hid (kc.length = 33) := by show _ = _; rw [hkc]; exact kC_len hk
  have CG : Hid (∀ wx, Below w.heap.size w wx → Calls Try.prog 36 #[ptr p, .agg kc.toArray] wx fun e w' => e = .returned (.tuple #[.agg F.toArray, .bool (isAt l k)]) ∧ Below wx.heap.size wx w') := by
    rw [hkc, hF]
    exact fun wx hwx => get_any (H.later hwx) ok hk
  have HF := Lib.hid hF
  have HK := Lib.hid hkc
  have OK := Lib.hid ok
  have FK := Lib.hid hk
  obtain ⟨qs, qg, qn⟩ := q
  have HQ := Lib.hid hq
  have hb0 := H.boxV 36 kc
  obtain ⟨bk, hbk⟩ : ∃ b, b = w.heap.size := ⟨_, rfl⟩
  obtain ⟨W0, hW0⟩ : ∃ W, W = w.alloc (.cells kc.toArray 36) := ⟨_, rfl⟩
  rw [← hW0, ← hbk] at hb0
  have hb1 := hb0.boxV 72 [iS qs, iS qg, iS qn]
  obtain ⟨bq, hbq⟩ : ∃ b, b = W0.heap.size := ⟨_, rfl⟩
  obtain ⟨W1, hW1⟩ : ∃ W, W = W0.alloc (.cells #[iS qs, iS qg, iS qn] 72) := ⟨_, rfl⟩
  have hW1' : W0.alloc (.cells [iS qs, iS qg, iS qn].toArray 72) = W1 := hW1.symm
  rw [hW1', ← hbq] at hb1
  have H1 := Lib.hid hb1
  have E0 := hW0.symm
  have E1 := hW1.symm
  have EK := hbk.symm
  have EB := hbq.symm
  have BW : Hid (Below w.heap.size w W1) := by rw [hW1, hW0]; exact (((Own.St.start w).alloc _).alloc _).below
  have hfit : Fit ⟨k, ⟨qs, qg, qn⟩, 1⟩ := ⟨hk, hq, ⟨by show (-9223372036854775808 : Int) ≤ 1; decide, by show (1 : Int) ≤ 9223372036854775807; decide⟩⟩
  have BC : Hid (Try.prog.built 74 [(0, .agg kc.toArray), (1, .agg #[iS qs, iS qg, iS qn]), (2, iS 1)] = some (kc ++ [iS qs, iS qg, iS qn, iS 1]).toArray) := built_chk kc KL.out _ _ _ _
  obtain ⟨N, hN⟩ : ∃ N, N = kc ++ [iS qs, iS qg, iS qn, iS 1] := ⟨_, rfl⟩
  rw [← hN] at BC
  have CP : Hid (∀ {Q : List Asn} (wx : World), Own.St B w0 wx (AS p l :: Q) → Calls Try.prog 49 #[ptr p, .agg N.toArray] wx fun e w' => e = .returned (.tuple #[]) ∧ Own.St B w0 w' (AS p (putS l ⟨k, ⟨qs, qg, qn⟩, 1⟩) :: Q)) := by
    have e : N = chC ⟨k, ⟨qs, qg, qn⟩, 1⟩ := by rw [hN, hkc]; rfl
    rw [e]
    exact fun {Q} wx h => put_any h ok hn hfit
  show Calls Try.prog _ #[_, .agg (kC k).toArray, .agg #[iS qs, iS qg, iS qn]] w _
  rw [addS_fst, addS_snd, ← hkc]
  clear hkc hF hb1 hbk hW1 hW1' ok hk H hq hW0 hbq hb0 hN hfit
  cases his : isAt l k
  · rw [his] at CG
    rw [if_neg (by simp), if_neg (by simp)]
    clear his
    go_enter Try.func46, Try.ntmps46
    go_wp2_with (refine wpList_val rfl (Rec.load_key kc KL.out rfl _ (b := bk) (k := 0) (H1.out.boxRange 1 rfl) rfl) ?_)
    refine (CG.out _ BW.out).mono ?_
    rintro e w2 ⟨rfl, h2⟩
    have H2 := Lib.hid (H1.out.later h2)
    clear h2 CG BW
    have d0 := (H2.out.cellV 0 rfl 0 rfl).1
    have d1 := (H2.out.cellV 0 rfl 1 rfl).1
    have d2 := (H2.out.cellV 0 rfl 2 rfl).1
    go_wp2_with (first
      | (refine wpList_box2 boxy_ch rfl rfl rfl (.tmp 7) (.tmp 15) rfl rfl F (fun _ => rfl) (fun _ => rfl) FL.out FO.out H2.out ?_; intro b7 w3 h; have H3 := Lib.hid h; clear h)
      | (refine wpList_val rfl (Rec.load_key kc KL.out rfl _ (b := bk) (k := 0) (H3.out.boxRange 2 rfl) rfl) ?_; have d3 := (H3.out.cellV 1 rfl 0 rfl).1; have d4 := (H3.out.cellV 1 rfl 1 rfl).1; have d5 := (H3.out.cellV 1 rfl 2 rfl).1)
      | (refine Own.wpList_built rfl 74 #[(0, .tmp 19), (1, .tmp 20), (2, .const (.int .i64 1))] rfl N.toArray ?_ ?_; · (simp only [List.map_toArray, List.map_cons, List.map_nil, List.toList_toArray]; exact BC.out)))
    refine (CP.out _ (H3.out.perm (rot3 _ _ _ _ _))).mono ?_
    rintro e w4 ⟨rfl, h4⟩
    have H4 := Lib.hid h4
    clear h4 CP
    go_wp2
    go_ret
    exact ⟨rfl, tail3 H4.out⟩
  · rw [his] at CG
    rw [if_pos rfl, if_pos rfl]
    clear his
    go_enter Try.func46, Try.ntmps46
    go_wp2_with (refine wpList_val rfl (Rec.load_key kc KL.out rfl _ (b := bk) (k := 0) (H1.out.boxRange 1 rfl) rfl) ?_)
    refine (CG.out _ BW.out).mono ?_
    rintro e w2 ⟨rfl, h2⟩
    have H2 := Lib.hid (H1.out.later h2)
    clear h2 CG BW
    go_wp2_with (refine wpList_box2 boxy_ch rfl rfl rfl (.tmp 7) (.tmp 15) rfl rfl F (fun _ => rfl) (fun _ => rfl) FL.out FO.out H2.out ?_; intro b7 w3 h; have H3 := Lib.hid h; clear h)
    go_ret
    exact ⟨rfl, H3.out.drop 3⟩
set_option maxRecDepth 10000 in
set_option maxHeartbeats 3200000 in
theorem ref_any (H : Own.St B w0 w (AS p l :: Ps)) (ok : Ok l) (hn : l.length ≤ 1000000) {k : Ky} (hk : FitK k) (hr : isAt l k = true → (getS l k).refs < 9223372036854775807) : Calls Try.prog 47 #[ptr p, kV k] w fun e w' => e = .returned (errS (refS l k).2) ∧ Own.St B w0 w' (AS p (refS l k).1 :: Ps) := by
  obtain ⟨kc, hkc⟩ : ∃ c, c = kC k := ⟨_, rfl⟩
  obtain ⟨F, hF⟩ : ∃ c, c = chC (getS l k) := ⟨_, rfl⟩
  have FL : Hid (F.length = 37) := by show _ = _; rw [hF]; exact chC_len (getS_fit ok k).key
  have FO : Hid (∀ u ∈ F, u.oneCell' = true) := by show ∀ u ∈ F, _; rw [hF]; exact chC_one _
  have KL : Hid (kc.length = 33) := by show _ = _; rw [hkc]; exact kC_len hk
  have CG : Hid (∀ wx, Below w.heap.size w wx → Calls Try.prog 36 #[ptr p, .agg kc.toArray] wx fun e w' => e = .returned (.tuple #[.agg F.toArray, .bool (isAt l k)]) ∧ Below wx.heap.size wx w') := by
    rw [hkc, hF]
    exact fun wx hwx => get_any (H.later hwx) ok hk
  have HF := Lib.hid hF
  have HK := Lib.hid hkc
  have OK := Lib.hid ok
  have FK := Lib.hid hk
  have hb1 := H.boxV 36 kc
  obtain ⟨bk, hbk⟩ : ∃ b, b = w.heap.size := ⟨_, rfl⟩
  obtain ⟨W1, hW1⟩ : ∃ W, W = w.alloc (.cells kc.toArray 36) := ⟨_, rfl⟩
  rw [← hW1, ← hbk] at hb1
  have H1 := Lib.hid hb1
  have E1 := hW1.symm
  have EK := hbk.symm
  have BW : Hid (Below w.heap.size w W1) := by rw [hW1]; exact ((Own.St.start w).alloc _).below
  show Calls Try.prog _ #[_, .agg (kC k).toArray] w _
  rw [← hkc]
  clear hkc hF hb1 hbk hW1
  cases his : isAt l k
  · rw [his] at CG
    rw [refS_no his]
    clear his ok hk H hr
    go_enter Try.func47, Try.ntmps47
    go_wp2_with (refine wpList_val rfl (Rec.load_key kc KL.out rfl _ (b := bk) (k := 0) (H1.out.boxRange 0 rfl) rfl) ?_)
    refine (CG.out _ BW.out).mono ?_
    rintro e w2 ⟨rfl, h2⟩
    have H2 := Lib.hid (H1.out.later h2)
    clear h2 CG BW
    go_wp2_with (refine wpList_box2 boxy_ch rfl rfl rfl (.tmp 5) (.tmp 11) rfl rfl F (fun _ => rfl) (fun _ => rfl) FL.out FO.out H2.out ?_; intro b7 w3 h; have H3 := Lib.hid h; clear h)
    go_ret
    exact ⟨rfl, H3.out.drop 2⟩
  · have hr1 := hr his
    have hf := getS_fit ok k
    have hr2 : -9223372036854775808 ≤ (getS l k).refs := hf.refs.1
    obtain ⟨r, hrr⟩ : ∃ r, r = (getS l k).refs := ⟨_, rfl⟩
    obtain ⟨G, hG⟩ : ∃ G, G = F.set 36 (iS (r + 1)) := ⟨_, rfl⟩
    have eG : G = chC (wR (getS l k) ((getS l k).refs + 1)) := by rw [hG, HF.out, hrr]; exact chC_set_refs hf.key _
    have hfit : Fit (wR (getS l k) ((getS l k).refs + 1)) := ⟨hf.key, hf.place, ⟨by show -9223372036854775808 ≤ (getS l k).refs + 1; omega, by show (getS l k).refs + 1 ≤ 9223372036854775807; omega⟩⟩
    have CP : Hid (∀ {Q : List Asn} (wx : World), Own.St B w0 wx (AS p l :: Q) → Calls Try.prog 49 #[ptr p, .agg G.toArray] wx fun e w' => e = .returned (.tuple #[]) ∧ Own.St B w0 w' (AS p (putS l (wR (getS l k) ((getS l k).refs + 1))) :: Q)) := by
      rw [eG]
      exact fun {Q} wx h => put_any h ok hn hfit
    have GL : Hid (G.length = 37) := by show _ = _; rw [hG, List.length_set]; exact FL.out
    have F36 : Hid (F[36]? = some (iS r)) := by show _ = _; rw [HF.out, hrr]; exact chC_rest hf.key 3
    have HG := Lib.hid hG
    rw [his] at CG
    rw [refS_yes his]
    rw [← hrr] at hr1 hr2
    have eW : IntKind.i64.wrap (r + 1) = r + 1 := by
      simp [IntKind.wrap, IntKind.bits, IntKind.signed]; omega
    clear his ok hk H hr hf hrr hG eG hfit
    go_enter Try.func47, Try.ntmps47
    go_wp2_with (refine wpList_val rfl (Rec.load_key kc KL.out rfl _ (b := bk) (k := 0) (H1.out.boxRange 0 rfl) rfl) ?_)
    refine (CG.out _ BW.out).mono ?_
    rintro e w2 ⟨rfl, h2⟩
    have H2 := Lib.hid (H1.out.later h2)
    clear h2 CG BW
    go_wp2_with (first
      | (refine wpList_box2 boxy_ch rfl rfl rfl (.tmp 5) (.tmp 11) rfl rfl F (fun _ => rfl) (fun _ => rfl) FL.out FO.out H2.out ?_; intro b7 w3 h; have q0 := (h.cellV 0 rfl 36 (v := .int .i64 r) F36.out).1; have q1 := (h.cellV 0 rfl 36 (v := .int .i64 r) F36.out).2; have SV := h.storeV 0 rfl 36 (.int .i64 (r + 1)); simp only [List.set_cons_zero] at SV; rw [← HG.out] at SV; have H4 := Lib.hid SV; clear h SV)
      | (refine wpList_val rfl (load_ch G GL.out rfl _ (b := b7) (k := 0) (H4.out.boxRange 0 rfl) rfl) ?_))
    refine (CP.out _ (H4.out.perm (rot2 _ _ _ _))).mono ?_
    rintro e w5 ⟨rfl, h5⟩
    have H5 := Lib.hid h5
    clear h5 CP
    go_wp2
    go_ret
    exact ⟨rfl, tail2 H5.out⟩
set_option maxRecDepth 10000 in
set_option maxHeartbeats 3200000 in
theorem move_any (H : Own.St B w0 w (AS p l :: Ps)) (ok : Ok l) (hn : l.length ≤ 1000000) {k : Ky} (hk : FitK k) {q : Pl} (hq : FitP q) : Calls Try.prog 56 #[ptr p, kV k, pV q] w fun e w' => e = .returned (errS (moveS l k q).2) ∧ Own.St B w0 w' (AS p (moveS l k q).1 :: Ps) := by
  obtain ⟨kc, hkc⟩ : ∃ c, c = kC k := ⟨_, rfl⟩
  obtain ⟨F, hF⟩ : ∃ c, c = chC (getS l k) := ⟨_, rfl⟩
  have FL : Hid (F.length = 37) := by show _ = _; rw [hF]; exact chC_len (getS_fit ok k).key
  have FO : Hid (∀ u ∈ F, u.oneCell' = true) := by show ∀ u ∈ F, _; rw [hF]; exact chC_one _
  have KL : Hid (kc.length = 33) := by show _ = _; rw [hkc]; exact kC_len hk
  have CG : Hid (∀ wx, Below w.heap.size w wx → Calls Try.prog 36 #[ptr p, .agg kc.toArray] wx fun e w' => e = .returned (.tuple #[.agg F.toArray, .bool (isAt l k)]) ∧ Below wx.heap.size wx w') := by
    rw [hkc, hF]
    exact fun wx hwx => get_any (H.later hwx) ok hk
  have HF := Lib.hid hF
  have HK := Lib.hid hkc
  have OK := Lib.hid ok
  have FK := Lib.hid hk
  obtain ⟨qs, qg, qn⟩ := q
  have HQ := Lib.hid hq
  have hb0 := H.boxV 36 kc
  obtain ⟨bk, hbk⟩ : ∃ b, b = w.heap.size := ⟨_, rfl⟩
  obtain ⟨W0, hW0⟩ : ∃ W, W = w.alloc (.cells kc.toArray 36) := ⟨_, rfl⟩
  rw [← hW0, ← hbk] at hb0
  have hb1 := hb0.boxV 72 [iS qs, iS qg, iS qn]
  obtain ⟨bq, hbq⟩ : ∃ b, b = W0.heap.size := ⟨_, rfl⟩
  obtain ⟨W1, hW1⟩ : ∃ W, W = W0.alloc (.cells #[iS qs, iS qg, iS qn] 72) := ⟨_, rfl⟩
  have hW1' : W0.alloc (.cells [iS qs, iS qg, iS qn].toArray 72) = W1 := hW1.symm
  rw [hW1', ← hbq] at hb1
  have H1 := Lib.hid hb1
  have E0 := hW0.symm
  have E1 := hW1.symm
  have EK := hbk.symm
  have EB := hbq.symm
  have BW : Hid (Below w.heap.size w W1) := by rw [hW1, hW0]; exact (((Own.St.start w).alloc _).alloc _).below
  show Calls Try.prog _ #[_, .agg (kC k).toArray, .agg #[iS qs, iS qg, iS qn]] w _
  rw [← hkc]
  clear hkc hF hb1 hbk hW1 hW1' hb0 hW0 hbq
  cases his : isAt l k
  · rw [his] at CG
    rw [moveS_no his]
    clear his ok hk H hq
    go_enter Try.func56, Try.ntmps56
    go_wp2_with (refine wpList_val rfl (Rec.load_key kc KL.out rfl _ (b := bk) (k := 0) (H1.out.boxRange 1 rfl) rfl) ?_)
    refine (CG.out _ BW.out).mono ?_
    rintro e w2 ⟨rfl, h2⟩
    have H2 := Lib.hid (H1.out.later h2)
    clear h2 CG BW
    go_wp2_with (refine wpList_box2 boxy_ch rfl rfl rfl (.tmp 7) (.tmp 13) rfl rfl F (fun _ => rfl) (fun _ => rfl) FL.out FO.out H2.out ?_; intro b7 w3 h; have H3 := Lib.hid h; clear h)
    go_ret
    exact ⟨rfl, H3.out.drop 3⟩
  · have hf := getS_fit ok k
    obtain ⟨G, hG⟩ : ∃ G, G = ((F.set 33 (.int .i64 qs)).set 34 (.int .i64 qg)).set 35 (.int .i64 qn) := ⟨_, rfl⟩
    have eG : G = chC (wP (getS l k) ⟨qs, qg, qn⟩) := by rw [hG, HF.out]; exact chC_set3 hf.key qs qg qn
    have hfit : Fit (wP (getS l k) ⟨qs, qg, qn⟩) := ⟨hf.key, hq, hf.refs⟩
    have CP : Hid (∀ {Q : List Asn} (wx : World), Own.St B w0 wx (AS p l :: Q) → Calls Try.prog 49 #[ptr p, .agg G.toArray] wx fun e w' => e = .returned (.tuple #[]) ∧ Own.St B w0 w' (AS p (putS l (wP (getS l k) ⟨qs, qg, qn⟩)) :: Q)) := by
      rw [eG]
      exact fun {Q} wx h => put_any h ok hn hfit
    have GL : Hid (G.length = 37) := by show _ = _; rw [hG, List.length_set, List.length_set, List.length_set]; exact FL.out
    obtain ⟨os, hos⟩ : ∃ x, x = (getS l k).place.seg := ⟨_, rfl⟩
    obtain ⟨og, hog⟩ : ∃ x, x = (getS l k).place.page := ⟨_, rfl⟩
    obtain ⟨on, hon⟩ : ∃ x, x = (getS l k).place.pages := ⟨_, rfl⟩
    have F33 : Hid (F[33]? = some (iS os)) := by show _ = _; rw [HF.out, hos]; exact chC_rest hf.key 0
    have F34 : Hid (F[34]? = some (iS og)) := by show _ = _; rw [HF.out, hog]; exact chC_rest hf.key 1
    have F35 : Hid (F[35]? = some (iS on)) := by show _ = _; rw [HF.out, hon]; exact chC_rest hf.key 2
    have HG := Lib.hid hG
    rw [his] at CG
    rw [moveS_yes his]
    clear his ok hk H hf hG eG hfit hq hos hog hon
    go_enter Try.func56, Try.ntmps56
    go_wp2_with (refine wpList_val rfl (Rec.load_key kc KL.out rfl _ (b := bk) (k := 0) (H1.out.boxRange 1 rfl) rfl) ?_)
    refine (CG.out _ BW.out).mono ?_
    rintro e w2 ⟨rfl, h2⟩
    have H2 := Lib.hid (H1.out.later h2)
    clear h2 CG BW
    go_wp2_with (first
      | (refine wpList_box2 boxy_ch rfl rfl rfl (.tmp 7) (.tmp 13) rfl rfl F (fun _ => rfl) (fun _ => rfl) FL.out FO.out H2.out ?_; intro b7 w3 h; have q0 := (h.cellV 0 rfl 33 (v := .int .i64 os) F33.out).1; have q1 := (h.cellV 0 rfl 33 (v := .int .i64 os) F33.out).2; have q2 := (h.cellV 0 rfl 34 (v := .int .i64 og) F34.out).1; have q3 := (h.cellV 0 rfl 34 (v := .int .i64 og) F34.out).2; have q4 := (h.cellV 0 rfl 35 (v := .int .i64 on) F35.out).1; have q5 := (h.cellV 0 rfl 35 (v := .int .i64 on) F35.out).2; have d0 := (h.cellV 1 rfl 0 rfl).1; have d1 := (h.cellV 1 rfl 1 rfl).1; have d2 := (h.cellV 1 rfl 2 rfl).1; have SV := ((h.storeV 0 rfl 33 (.int .i64 qs)).storeV 0 rfl 34 (.int .i64 qg)).storeV 0 rfl 35 (.int .i64 qn); simp only [List.set_cons_zero] at SV; rw [← HG.out] at SV; have H4 := Lib.hid SV; clear h SV)
      | (refine wpList_val rfl (load_ch G GL.out rfl _ (b := b7) (k := 0) (H4.out.boxRange 0 rfl) rfl) ?_))
    refine (CP.out _ (H4.out.perm (rot3 _ _ _ _ _))).mono ?_
    rintro e w5 ⟨rfl, h5⟩
    have H5 := Lib.hid h5
    clear h5 CP
    go_wp2
    go_ret
    exact ⟨rfl, tail3 H5.out⟩
set_option maxRecDepth 10000 in
set_option maxHeartbeats 3200000 in
theorem unref_any (H : Own.St B w0 w (AS p l :: Ps)) (ok : Ok l) (hn : l.length ≤ 1000000) {k : Ky} (hk : FitK k) (hr : isAt l k = true → 1 ≤ (getS l k).refs) : Calls Try.prog 48 #[ptr p, kV k] w fun e w' => e = .returned (.tuple #[.bool (unrefS l k).2.1, errS (unrefS l k).2.2]) ∧ Own.St B w0 w' (AS p (unrefS l k).1 :: Ps) := by
  obtain ⟨kc, hkc⟩ : ∃ c, c = kC k := ⟨_, rfl⟩
  obtain ⟨F, hF⟩ : ∃ c, c = chC (getS l k) := ⟨_, rfl⟩
  have FL : Hid (F.length = 37) := by show _ = _; rw [hF]; exact chC_len (getS_fit ok k).key
  have FO : Hid (∀ u ∈ F, u.oneCell' = true) := by show ∀ u ∈ F, _; rw [hF]; exact chC_one _
  have KL : Hid (kc.length = 33) := by show _ = _; rw [hkc]; exact kC_len hk
  have CG : Hid (∀ wx, Below w.heap.size w wx → Calls Try.prog 36 #[ptr p, .agg kc.toArray] wx fun e w' => e = .returned (.tuple #[.agg F.toArray, .bool (isAt l k)]) ∧ Below wx.heap.size wx w') := by
    rw [hkc, hF]
    exact fun wx hwx => get_any (H.later hwx) ok hk
  have HF := Lib.hid hF
  have HK := Lib.hid hkc
  have OK := Lib.hid ok
  have FK := Lib.hid hk
  have hb1 := H.boxV 36 kc
  obtain ⟨bk, hbk⟩ : ∃ b, b = w.heap.size := ⟨_, rfl⟩
  obtain ⟨W1, hW1⟩ : ∃ W, W = w.alloc (.cells kc.toArray 36) := ⟨_, rfl⟩
  rw [← hW1, ← hbk] at hb1
  have H1 := Lib.hid hb1
  have E1 := hW1.symm
  have EK := hbk.symm
  have BW : Hid (Below w.heap.size w W1) := by rw [hW1]; exact ((Own.St.start w).alloc _).below
  show Calls Try.prog _ #[_, .agg (kC k).toArray] w _
  rw [← hkc]
  clear hF hb1 hbk hW1
  cases his : isAt l k
  · rw [his] at CG
    rw [unrefS_no his]
    clear his ok hk H hr hkc
    go_enter Try.func48, Try.ntmps48
    go_wp2_with (refine wpList_val rfl (Rec.load_key kc KL.out rfl _ (b := bk) (k := 0) (H1.out.boxRange 0 rfl) rfl) ?_)
    refine (CG.out _ BW.out).mono ?_
    rintro e w2 ⟨rfl, h2⟩
    have H2 := Lib.hid (H1.out.later h2)
    clear h2 CG BW
    go_wp2_with (refine wpList_box2 boxy_ch rfl rfl rfl (.tmp 6) (.tmp 12) rfl rfl F (fun _ => rfl) (fun _ => rfl) FL.out FO.out H2.out ?_; intro b7 w3 h; have H3 := Lib.hid h; clear h)
    go_ret2
    exact ⟨rfl, H3.out.drop 2⟩
  · have hr1 := hr his
    have hf := getS_fit ok k
    have hr2 : (getS l k).refs ≤ 9223372036854775807 := hf.refs.2
    obtain ⟨r, hrr⟩ : ∃ r, r = (getS l k).refs := ⟨_, rfl⟩
    obtain ⟨G, hG⟩ : ∃ G, G = F.set 36 (iS (r - 1)) := ⟨_, rfl⟩
    have eG : G = chC (wR (getS l k) ((getS l k).refs - 1)) := by rw [hG, HF.out, hrr]; exact chC_set_refs hf.key _
    have hfit : Fit (wR (getS l k) ((getS l k).refs - 1)) := ⟨hf.key, hf.place, ⟨by show -9223372036854775808 ≤ (getS l k).refs - 1; omega, by show (getS l k).refs - 1 ≤ 9223372036854775807; omega⟩⟩
    have CP : Hid (∀ {Q : List Asn} (wx : World), Own.St B w0 wx (AS p l :: Q) → Calls Try.prog 49 #[ptr p, .agg G.toArray] wx fun e w' => e = .returned (.tuple #[]) ∧ Own.St B w0 w' (AS p (putS l (wR (getS l k) ((getS l k).refs - 1))) :: Q)) := by
      rw [eG]
      exact fun {Q} wx h => put_any h ok hn hfit
    have GL : Hid (G.length = 37) := by show _ = _; rw [hG, List.length_set]; exact FL.out
    have F36 : Hid (F[36]? = some (iS r)) := by show _ = _; rw [HF.out, hrr]; exact chC_rest hf.key 3
    have HG := Lib.hid hG
    have DEL : Hid (∀ {Q : List Asn} (wx : World), Own.St B w0 wx (AS p l :: Q) → ∃ b, wx.cell? ⟨p, 0, none⟩ = some (.map (some b)) ∧ ∀ wy, Below wx.heap.size wx wy → wy.cell? ⟨p, 0, none⟩ = some (.map (some b)) ∧ ∀ ty, ∃ w', (Builtin.delete_ #[108, 36] ty #[.map (some b), .agg kc.toArray]).run Try.prog wy = .ok (.tuple #[]) w' ∧ Own.St B w0 w' (AS p (l.eraseIdx (posK k l)) :: Q)) := by
      intro Q wx h
      obtain ⟨m, hm, h2⟩ := as_open h
      cases m with
      | none => rw [hm rfl] at his; cases his
      | some b =>
        refine ⟨b, (h2.cellV 0 rfl 0 rfl).1, fun wy hwy => ⟨((h2.later hwy).cellV 0 rfl 0 rfl).1, fun ty => ?_⟩⟩
        obtain ⟨w', hr, h3⟩ := mapDelC (h2.later hwy) 1 rfl ok hk his ty
        rw [hkc]
        exact ⟨w', hr, as_close (m := some b) (fun h => by cases h) h3⟩
    rw [his] at CG
    rw [← hrr] at hr1 hr2
    have eW : IntKind.i64.wrap (r - 1) = r - 1 := by
      simp [IntKind.wrap, IntKind.bits, IntKind.signed]; omega
    by_cases hz : r - 1 = 0
    · have hz0 : ¬ (getS l k).refs - 1 > 0 := by rw [← hrr]; omega
      rw [unrefS_last his hz0]
      have hr3 : r = 1 := by omega
      subst hr3
      clear hz0 his ok hk H hr hf hrr hG eG hfit hkc hz eW hr1 hr2
      go_enter Try.func48, Try.ntmps48
      go_wp2_with (refine wpList_val rfl (Rec.load_key kc KL.out rfl _ (b := bk) (k := 0) (H1.out.boxRange 0 rfl) rfl) ?_)
      refine (CG.out _ BW.out).mono ?_
      rintro e w2 ⟨rfl, h2⟩
      have H2 := Lib.hid (H1.out.later h2)
      clear h2 CG BW
      go_wp2_with (refine wpList_box2 boxy_ch rfl rfl rfl (.tmp 6) (.tmp 12) rfl rfl F (fun _ => rfl) (fun _ => rfl) FL.out FO.out H2.out ?_; intro b7 w3 h; have q0 := (h.cellV 0 rfl 36 (v := .int .i64 1) F36.out).1; have q1 := (h.cellV 0 rfl 36 (v := .int .i64 1) F36.out).2; have SV := h.storeV 0 rfl 36 (.int .i64 0); simp only [List.set_cons_zero] at SV; have H4 := Lib.hid SV; clear h SV)
      obtain ⟨W4, hW4⟩ : ∃ W, W = w3.setCell ⟨b7, 36, none⟩ (.int .i64 0) := ⟨_, rfl⟩
      rw [← hW4] at H4 ⊢
      clear hW4 q0 q1
      obtain ⟨b, c0, D⟩ := DEL.out W4 (H4.out.perm (rot2 _ _ _ _))
      have HD := Lib.hid D
      clear D c0 DEL
      refine wp_laxW_list 5 (by kernel_rfl) (by kernel_rfl) (by kernel_rfl) (by kernel_rfl) (by kernel_rfl) ?_
      simp only [List.take_succ_cons, List.take_zero, List.drop_succ_cons, List.drop_zero]
      refine wpL_move (ptr p) rfl (by kernel_rfl) (by kernel_rfl) (by kernel_rfl) (by kernel_rfl) ?_
      refine wpL_run1 (x := .tmp 23) (ptr p) (ptr p) (by kernel_rfl) (by kernel_rfl) (by kernel_rfl) (by kernel_rfl) (by kernel_rfl) (fun wx ρ hwx h0 hc => by simp [go_sem, h0]) ?_
      refine wpL_run1 (x := .tmp 24) (ptr p) (ptr p) (by kernel_rfl) (by kernel_rfl) (by kernel_rfl) (by kernel_rfl) (by kernel_rfl) (fun wx ρ hwx h0 hc => fld_m rfl ρ wx h0) ?_
      refine wpL_run1 (x := .tmp 25) (ptr p) (.map (some b)) (by kernel_rfl) (by kernel_rfl) (by kernel_rfl) (by kernel_rfl) (by kernel_rfl) (fun wx ρ hwx h0 hc => ld_m rfl ρ (HD.out wx hwx).1 h0) ?_
      refine wpL_run1 (x := .tmp 3) (ptr bk) (.agg kc.toArray) (by kernel_rfl) (by kernel_rfl) (by kernel_rfl) (by kernel_rfl) (by kernel_rfl) (fun wx ρ hwx h0 hc => Rec.load_key kc KL.out rfl ρ ((H4.out.later hwx).boxRange 1 rfl) h0) ?_
      refine wpL_end (by kernel_rfl) (fun w4 hw4 => ?_)
      simp only [FinL, setL, List.set_cons_zero, List.set_cons_succ]
      intro _
      obtain ⟨w5, e5, h5⟩ := (HD.out w4 hw4).2 0
      have E5 := Lib.hid e5
      have H5 := Lib.hid h5
      clear h5 hw4 e5 HD H4
      go_wp2_with (refine wpList_del rfl (.tmp 26) (.tmp 27) rfl rfl rfl E5.out ?_)
      go_ret2
      exact ⟨rfl, tail2 H5.out⟩
    · have hz0 : (getS l k).refs - 1 > 0 := by rw [← hrr]; omega
      rw [unrefS_more his hz0]
      have hzb : ((r - 1) == 0) = false := by simp; omega
      clear hz0 his ok hk H hr hf hrr hG eG hfit hkc DEL
      go_enter Try.func48, Try.ntmps48
      go_wp2_with (refine wpList_val rfl (Rec.load_key kc KL.out rfl _ (b := bk) (k := 0) (H1.out.boxRange 0 rfl) rfl) ?_)
      refine (CG.out _ BW.out).mono ?_
      rintro e w2 ⟨rfl, h2⟩
      have H2 := Lib.hid (H1.out.later h2)
      clear h2 CG BW
      go_wp2_with (first
        | (refine wpList_box2 boxy_ch rfl rfl rfl (.tmp 6) (.tmp 12) rfl rfl F (fun _ => rfl) (fun _ => rfl) FL.out FO.out H2.out ?_; intro b7 w3 h; have q0 := (h.cellV 0 rfl 36 (v := .int .i64 r) F36.out).1; have q1 := (h.cellV 0 rfl 36 (v := .int .i64 r) F36.out).2; have SV := h.storeV 0 rfl 36 (.int .i64 (r - 1)); simp only [List.set_cons_zero] at SV; rw [← HG.out] at SV; have H4 := Lib.hid SV; clear h SV)
        | (refine wpList_val rfl (load_ch G GL.out rfl _ (b := b7) (k := 0) (H4.out.boxRange 0 rfl) rfl) ?_))
      refine (CP.out _ (H4.out.perm (rot2 _ _ _ _))).mono ?_
      rintro e w5 ⟨rfl, h5⟩
      have H5 := Lib.hid h5
      clear h5 CP
      go_wp2
      go_ret2
      exact ⟨rfl, tail2 H5.out⟩
end
end Sto
end Go.Proofs.Ytepbdjgfaljbgaa

end
section
namespace Go.Proofs.Ytepbdjgfaljbgaa
open Go.RowKit Go.Own
namespace Sto
open Go.StoM Byt
/-- cmp.Compare of two numbers -/
def cmpZ (x y : Int) : Int := if x < y then -1 else if y < x then 1 else 0
def orZ (a b : Int) : Int := if a = 0 then b else a
def cmpB (a b : List UInt8) : Int := if ltB a b then -1 else if ltB b a then 1 else 0
theorem ltB_cons (x y : UInt8) (a b : List UInt8) : ltB (x :: a) (y :: b) = (decide (x.toNat < y.toNat) || (decide (x.toNat = y.toNat) && ltB a b)) := rfl
theorem cmpB_is : ∀ a b : List UInt8, Lib.compareBytes a b = cmpB a b
  | [], [] => rfl
  | [], _ :: _ => rfl
  | _ :: _, [] => rfl
  | x :: a, y :: b => by
    unfold Lib.compareBytes
    rw [cmpB_is a b]
    unfold cmpB
    rw [ltB_cons, ltB_cons]
    have e1 : (x < y) ↔ x.toNat < y.toNat := UInt8.lt_iff_toNat_lt
    have e2 : (y < x) ↔ y.toNat < x.toNat := UInt8.lt_iff_toNat_lt
    by_cases h1 : x.toNat < y.toNat
    · rw [if_pos (e1.2 h1)]
      simp [h1]
    · rw [if_neg (fun h => h1 (e1.1 h))]
      by_cases h2 : y.toNat < x.toNat
      · rw [if_pos (e2.2 h2)]
        have : ¬ x.toNat = y.toNat := by omega
        simp [h1, h2, this]
      · rw [if_neg (fun h => h2 (e2.1 h))]
        have e : x.toNat = y.toNat := by omega
        simp [e]
theorem cmp32 (x y : Nat) (w : World) : Calls Try.prog 67 #[.int .u32 (x : Int), .int .u32 (y : Int)] w fun e w' => e = .returned (.int .i64 (cmpZ x y)) ∧ w' = w := by
  unfold cmpZ
  by_cases h1 : (x : Int) < (y : Int)
  · rw [if_pos h1]
    go_enter Try.func67, Try.ntmps67
    go_wp2
    go_ret
    exact ⟨rfl, rfl⟩
  · rw [if_neg h1]
    by_cases h2 : (y : Int) < (x : Int)
    · rw [if_pos h2]
      go_enter Try.func67, Try.ntmps67
      go_wp2
      go_ret
      exact ⟨rfl, rfl⟩
    · rw [if_neg h2]
      go_enter Try.func67, Try.ntmps67
      go_wp2
      go_ret
      exact ⟨rfl, rfl⟩
theorem cmpI (x y : Int) (w : World) : Calls Try.prog 65 #[.int .i64 x, .int .i64 y] w fun e w' => e = .returned (.int .i64 (cmpZ x y)) ∧ w' = w := by
  unfold cmpZ
  by_cases h1 : x < y
  · rw [if_pos h1]
    go_enter Try.func65, Try.ntmps65
    go_wp2
    go_ret
    exact ⟨rfl, rfl⟩
  · rw [if_neg h1]
    by_cases h2 : y < x
    · rw [if_pos h2]
      go_enter Try.func65, Try.ntmps65
      go_wp2
      go_ret
      exact ⟨rfl, rfl⟩
    · rw [if_neg h2]
      go_enter Try.func65, Try.ntmps65
      go_wp2
      go_ret
      exact ⟨rfl, rfl⟩
set_option maxHeartbeats 1600000 in
/-- the first that is not 0 -/
theorem or_two (a b : Int) (w : World) (g : Nat) (c0 : w.cell? ⟨g, 0, none⟩ = some (.int .i64 a)) (c1 : w.cell? ⟨g, 1, none⟩ = some (.int .i64 b)) : Calls Try.prog 64 #[.slice (some ⟨g, 0, none⟩) 2 2] w fun e w' => e = .returned (.int .i64 (orZ a b)) ∧ w' = w := by
  have d0 : decide ((0 : Int) < 2) = true := rfl
  unfold orZ
  by_cases ha : a = 0
  · subst ha
    rw [if_pos rfl]
    by_cases hb : b = 0
    · subst hb
      go_enter Try.func64, Try.ntmps64
      go_wp2
      go_loopw [8] (fun v8 wr => ∃ i : Nat, i ≤ 2 ∧ v8 = .int .i64 (i : Int) ∧ wr = w) (fun v8 _ => 2 - (intOf v8).toNat)
      case atStart => exact ⟨0, by omega, rfl, rfl⟩
      case round =>
        obtain ⟨i, hi, rfl, rfl⟩ := hrel
        rcases (show i = 0 ∨ i = 1 ∨ i = 2 by omega) with rfl | rfl | rfl
        · go_wp2
          go_roundw
          case rel => exact ⟨1, by omega, by go_num, (by first | rfl | trivial)⟩
          case measure => simp [intOf]
        · go_wp2
          go_roundw
          case rel => exact ⟨2, by omega, by go_num, (by first | rfl | trivial)⟩
          case measure => simp [intOf]
        · go_wp2
          go_ret
          exact ⟨rfl, rfl⟩
    · have hbb : (b == 0) = false := by simp [hb]
      have hbn : (b != 0) = true := by simp [hb]
      go_enter Try.func64, Try.ntmps64
      go_wp2
      go_loopw [8] (fun v8 wr => ∃ i : Nat, i ≤ 1 ∧ v8 = .int .i64 (i : Int) ∧ wr = w) (fun v8 _ => 2 - (intOf v8).toNat)
      case atStart => exact ⟨0, by omega, rfl, rfl⟩
      case round =>
        obtain ⟨i, hi, rfl, rfl⟩ := hrel
        rcases (show i = 0 ∨ i = 1 by omega) with rfl | rfl
        · go_wp2
          go_roundw
          case rel => exact ⟨1, by omega, by go_num, (by first | rfl | trivial)⟩
          case measure => simp [intOf]
        · go_wp2
          go_ret
          exact ⟨rfl, rfl⟩
  · rw [if_neg ha]
    have haa : (a == 0) = false := by simp [ha]
    have han : (a != 0) = true := by simp [ha]
    go_enter Try.func64, Try.ntmps64
    go_wp2
    go_loopw [8] (fun v8 wr => v8 = .int .i64 0 ∧ wr = w) (fun v8 _ => 2 - (intOf v8).toNat)
    case atStart => exact ⟨rfl, rfl⟩
    case round =>
      obtain ⟨rfl, rfl⟩ := hrel
      go_wp2
      go_ret
      exact ⟨rfl, rfl⟩
/-- bytes in memory -/
theorem load_bytes {P : Program} {w : World} {b : Nat} {s : List UInt8} (h : ∀ j u, (s.map byteV)[j]? = some u → w.cell? ⟨b, j, none⟩ = some u) : (Extern.Bytes.bytesOf (.slice (some ⟨b, 0, none⟩) s.length s.length)).run P w = .ok (strB s) w := by
  have hl := Lib.run_loadBytesX (P := P) w (s.map fun x => (x.toNat : Int)) ⟨b, 0, none⟩ .empty (fun j x hj => by
    rw [List.getElem?_map] at hj
    obtain ⟨c, hc, rfl⟩ := Option.map_eq_some_iff.1 hj
    rw [add_of, Nat.zero_add]
    exact h j _ (by rw [List.getElem?_map, hc]; rfl))
  rw [List.length_map] at hl
  have e : (⟨ByteArray.empty.data ++ (Lib.bytesOf (s.map fun x => (x.toNat : Int))).toArray⟩ : ByteArray) = strB s := by
    apply ByteArray.ext
    show (#[] : Array UInt8) ++ _ = (strB s).data
    simp [Lib.bytesOf, strB, Function.comp_def]
  rw [e] at hl
  simp only [Extern.Bytes.bytesOf]
  exact hl
theorem run_compareS {P : Program} {w : World} {b1 b2 : Nat} {s1 s2 : List UInt8} (h1 : ∀ j u, (s1.map byteV)[j]? = some u → w.cell? ⟨b1, j, none⟩ = some u) (h2 : ∀ j u, (s2.map byteV)[j]? = some u → w.cell? ⟨b2, j, none⟩ = some u) (l1 : s1.length = 32) (l2 : s2.length = 32) :
    (Extern.BytealgCompare.compare #[.slice (some ⟨b1, 0, none⟩) 32 32, .slice (some ⟨b2, 0, none⟩) 32 32]).run P w = .ok (.int .i64 (cmpB s1 s2)) w := by
  have g1 := load_bytes (P := P) h1
  have g2 := load_bytes (P := P) h2
  rw [l1] at g1
  rw [l2] at g2
  change Sem.run P (do pure (goInt (Extern.BytealgCompare.cmp (← Extern.Bytes.bytesOf (.slice (some ⟨b1, 0, none⟩) 32 32)) (← Extern.Bytes.bytesOf (.slice (some ⟨b2, 0, none⟩) 32 32))))) w = _
  simp only [Sem.run_bind, g1, g2, Result.andThen, Sem.run_pure]
  rw [Lib.cmp_eq]
  show Result.ok (goInt (Lib.compareBytes s1 s2)) w = _
  rw [cmpB_is]
  rfl
set_option maxHeartbeats 1000000 in
theorem bytesCmp {w : World} {b1 b2 : Nat} {s1 s2 : List UInt8} (h1 : ∀ j u, (s1.map byteV)[j]? = some u → w.cell? ⟨b1, j, none⟩ = some u) (h2 : ∀ j u, (s2.map byteV)[j]? = some u → w.cell? ⟨b2, j, none⟩ = some u) (l1 : s1.length = 32) (l2 : s2.length = 32) :
    Calls Try.prog 66 #[.slice (some ⟨b1, 0, none⟩) 32 32, .slice (some ⟨b2, 0, none⟩) 32 32] w fun e w' => e = .returned (.int .i64 (cmpB s1 s2)) ∧ w' = w := by
  have R := Lib.hid (run_compareS (P := Try.prog) h1 h2 l1 l2)
  obtain ⟨x, hx⟩ : ∃ x, x = cmpB s1 s2 := ⟨_, rfl⟩
  rw [← hx] at R ⊢
  clear hx h1 h2
  go_enter Try.func66, Try.ntmps66
  go_wp2
  rw [run_callFunc_extern Try.func71 (by kernel_rfl) (by kernel_rfl) (by kernel_rfl) (e := Extern.BytealgCompare.compare) (by kernel_rfl), R.out]
  simp only [Result.andThen]
  rw [Oper.upon_value]
  go_wp2
  go_ret
  exact ⟨rfl, rfl⟩
def keyCmp (a b : Ky) : Int := orZ (cmpB a.sum b.sum) (cmpZ a.n b.n)
def pageCmp (a b : Ch) : Int := orZ (cmpZ a.place.page b.place.page) (keyCmp a.key b.key)
end Sto
end Go.Proofs.Ytepbdjgfaljbgaa

end
