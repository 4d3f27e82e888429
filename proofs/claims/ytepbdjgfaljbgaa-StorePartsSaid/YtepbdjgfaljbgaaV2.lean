/- Merged: RecR KeyI Roc Bx StoR StoL Acts TabM LaxF TabR Res Cod CodC CodS TabRd Rdw LaxG LaxH Slo -/
import Derived.Deep.MidRow
import Derived.Laws.StructEq
import Derived.Laws.Rows
import Derived.Great.Walk
import Derived.Lib.Hide
import Derived.WalkKit
import Derived.BigQuiet
import Derived.BigRegion
import Derived.Deep.QuietTactic
import Derived.Test.YtepbdjgfaljbgaaRows
import Derived.Deep.RegionLaw
import Derived.Deep.DeepMust
import Derived.WalkSpells
import Derived.WalkLawsBesides
import Derived.OwnWalk
import Derived.ArgAppend
import Derived.Test.YtepbdjgfaljbgaaV1
set_option linter.unusedVariables false
section
namespace Go.Proofs.Ytepbdjgfaljbgaa
open Go.RowKit Go.Own
namespace Rec
open Go.RecM Byt

def keyC (s : RecM.Bs) (k : Nat) : List Value := s.map byteV ++ [.int .u32 (k : Int)]
theorem keyC_len (s : RecM.Bs) (k : Nat) (h : s.length = 32) : (keyC s k).length = 33 := by unfold keyC; simp [h]
theorem info_key (cs : List Value) (h : cs.length = 33) : (Try.prog.info? 36).map (·.size) = some cs.length := by
  have h0 : (Try.prog.info? 36).map (fun i => i.size) = some 33 := by kernel_rfl
  rw [h]; exact h0
/-- a key, a note are loaded, whatever the guard -/
theorem load_key (cs : List Value) (hl : cs.length = 33) {o : Oper} {x : Tmp} (ho : o.op = .load 36 (.tmp x)) {b k : Nat} (ρ : Operand → Value) {w : World} (hr : w.rangeAt b k cs) (h0 : ρ (.tmp x) = .pointer (some ⟨b, k, none⟩)) : (execOp ρ o).run Try.prog w = .ok (.value (.agg cs.toArray)) w := by
  have := run_loadAt_mid (P := Try.prog) w b k 36 cs _ hr Try.underlying36 rfl (info_key cs hl)
  unfold execOp
  simp only [ho, h0, Sem.run_bind, this, Result.andThen_ok, Sem.run_pure]
theorem bytes_ints (l : RecM.Bs) : (l.map (fun x => (x.toNat : Int))).map (Value.int .u8) = l.map byteV := by
  rw [List.map_map]; rfl
theorem bytes_eq (a b : RecM.Bs) : decide (a.map (fun x => (x.toNat : Int)) = b.map (fun x => (x.toNat : Int))) = decide (a = b) := by
  apply decide_eq_decide.2
  constructor
  · intro h
    exact (List.map_inj_right (fun x y h => UInt8.toNat_inj.1 (by omega))).1 h
  · rintro rfl; rfl
theorem run_eq_sum (d : Nat) (a b : RecM.Bs) (ha : a.length = 32) (hb : b.length = 32) (w : World) : (Op.equalIn (d + 2) 34 (.agg (a.map byteV).toArray) (.agg (b.map byteV).toArray)).run Try.prog w = .ok (decide (a = b)) w := by
  have h := run_equalIn_ints (P := Try.prog) d 34 5 .u8 (a.map (fun x => (x.toNat : Int))) (b.map (fun x => (x.toNat : Int))) (by simp [ha, hb]) (by rw [List.length_map, ha]; exact Try.underlying34) Try.underlying5 (fun w => by kernel_rfl) (fun w => by kernel_rfl) w
  rw [bytes_eq, bytes_ints, bytes_ints] at h
  exact h
theorem key_fields : (Try.prog.fieldsOf 36).toList.map (fun f => (f.name, f.type, f.offset)) = [("Sum", 34, 0), ("N", 32, 32)] := by kernel_rfl
theorem part_sum (a : RecM.Bs) (x : Nat) (ha : a.length = 32) (w : World) : (part 34 (keyC a x).toArray 0).run Try.prog w = .ok (.agg (a.map byteV).toArray) w := by
  have h1 : ∀ w, (isAgg 34).run Try.prog w = .ok true w := fun w => by kernel_rfl
  have h2 : ∀ w, (sizeOf 34).run Try.prog w = .ok 32 w := fun w => by kernel_rfl
  have e : (keyC a x).toArray.extract 0 (0 + 32) = (a.map byteV).toArray := by
    unfold keyC
    rw [List.extract_toArray]
    congr 1
    rw [List.extract_eq_take_drop, List.drop_zero, List.take_append_of_le_length (by simp [ha]), List.take_of_length_le (by simp [ha])]
  unfold part
  simp only [Sem.run_bind, h1, h2, Result.andThen_ok, if_true, Sem.run_pure, e]
theorem part_kn (a : RecM.Bs) (x : Nat) (ha : a.length = 32) (w : World) : (part 32 (keyC a x).toArray 32).run Try.prog w = .ok (.int .u32 (x : Int)) w := by
  have h1 : ∀ w, (isAgg 32).run Try.prog w = .ok false w := fun w => by kernel_rfl
  have e : (keyC a x).toArray[32]? = some (.int .u32 (x : Int)) := by
    unfold keyC
    rw [List.getElem?_toArray, List.getElem?_append_right (by simp [ha]), List.length_map, ha]
    rfl
  unfold part
  simp only [Sem.run_bind, h1, Result.andThen_ok, Bool.false_eq_true, if_false, e, Sem.run_pure]
end Rec
end Go.Proofs.Ytepbdjgfaljbgaa

end
section
namespace Go.Proofs.Ytepbdjgfaljbgaa
open Go.RowKit Go.Own
namespace Rec
open Go.RecM Byt
def inKey : InT (RecM.Bs × Nat) := fun k _ _ cs => cs = keyC k.1 k.2 ∧ k.1.length = 32 ∧ k.2 < 4294967296
theorem nat_u32 {a : Int} (h : (Lit.int .u32 a).wf = true) : ∃ u : Nat, a = u ∧ u < 4294967296 := by
  have : 0 ≤ a ∧ a < 4294967296 := by
    have : 0 ≤ a ∧ a ≤ 4294967295 := by simpa [Lit.wf, IntKind.min, IntKind.max, IntKind.signed, IntKind.bits] using h
    omega
  exact ⟨a.toNat, by omega, by omega⟩
theorem opens_key : Opens Try.prog 36 inKey := by
  intro H enc w fuel cs x h
  obtain ⟨hl, hf⟩ := opens_fields (P := Try.prog) Try.underlying36 h
  rw [show Try.prog.cellsOf 36 = 33 by kernel_rfl] at hl
  obtain ⟨n0, y0, h0⟩ := hf 0 _ rfl
  obtain ⟨n1, y1, h1⟩ := hf 1 _ rfl
  obtain ⟨s, hs⟩ := opens_bytesA (P := Try.prog) (n := 32) Try.underlying34 Try.underlying5 (by kernel_rfl) (by kernel_rfl) H enc w n0 _ y0 h0
  obtain ⟨a1, e1, w1⟩ := opens_int (P := Try.prog) Try.underlying32 H enc w n1 _ y1 h1
  obtain ⟨hs1, hs2⟩ := hs
  obtain ⟨u, rfl, hu⟩ := nat_u32 w1
  have k0 : Try.prog.cellsOf 34 = 32 := by kernel_rfl
  have k1 : Try.prog.cellsOf 32 = 1 := by kernel_rfl
  refine ⟨(s, u), ?_, hs2, hu⟩
  show cs = keyC s u
  have f0 : cs.take 32 = s.map byteV := by simpa [k0] using hs1
  have f1 : (cs.drop 32).take 1 = [.int .u32 (u : Int)] := by simpa [k1] using e1
  unfold keyC
  rw [← f0, ← f1, List.take_of_length_le (l := cs.drop 32) (by simp [hl]), List.take_append_drop]
end Rec
end Go.Proofs.Ytepbdjgfaljbgaa

end
section
namespace Go.Own
open Go.RowKit
section
variable {B : Nat} {w0 : World} {e : TypeId} {size n cap : Nat}
/-- several cells of a row of one's own, from o on, are written -/
theorem St.rowCells (i : Nat) {g : Nat} : ∀ (r : List Value) (o : Nat) (w : World) (Ps : List Asn) (xs : List Value), St B w0 w Ps → Ps[i]? = some (ARow e size (.slice (some ⟨g, 0, none⟩) n cap) n xs) → o + r.length ≤ n * size →
    St B w0 (w.setCells g o r) (Ps.set i (ARow e size (.slice (some ⟨g, 0, none⟩) n cap) n (xs.take o ++ r ++ xs.drop (o + r.length))))
  | [], o, w, Ps, l, h, hi, hl => by
    have ee : l.take o ++ [] ++ l.drop (o + ([] : List Value).length) = l := by simp
    rw [ee]
    have hs : Ps.set i (ARow e size (.slice (some ⟨g, 0, none⟩) n cap) n l) = Ps := by
      apply List.ext_getElem?
      intro j
      by_cases hj : j = i
      · subst hj
        rw [List.getElem?_set_self (List.getElem?_eq_some_iff.1 hi).1, hi]
      · rw [List.getElem?_set_ne (Ne.symm hj)]
    rw [hs]
    exact h
  | c :: r, o, w, Ps, l, h, hi, hl => by
    have hlen := (h.rowLen i hi).1
    have hon : o < n * size := by simp at hl; omega
    obtain ⟨g', hg', _, _, put⟩ := h.rowAt i hi o hon
    cases hg'
    have hlt : i < Ps.length := (List.getElem?_eq_some_iff.1 hi).1
    have h2 := St.rowCells i r (o + 1) _ _ (l.set o c) (put c) (by rw [List.getElem?_set_self hlt]) (by simp at hl ⊢; omega)
    rw [List.set_set] at h2
    have ee : (l.set o c).take (o + 1) ++ r ++ (l.set o c).drop (o + 1 + r.length) = l.take o ++ (c :: r) ++ l.drop (o + (c :: r).length) := by
      have ho : o < l.length := by omega
      have e0 : (l.set o c).take o = l.take o := by
        apply List.ext_getElem?
        intro j
        by_cases hj : j < o
        · rw [List.getElem?_take_of_lt hj, List.getElem?_take_of_lt hj, List.getElem?_set_ne (by omega)]
        · rw [List.getElem?_eq_none (by simp; omega), List.getElem?_eq_none (by simp; omega)]
      have e1 : (l.set o c).drop (o + 1 + r.length) = l.drop (o + (c :: r).length) := by
        apply List.ext_getElem?
        intro j
        rw [List.getElem?_drop, List.getElem?_drop, List.getElem?_set_ne (by omega)]
        congr 1
        simp
        omega
      rw [List.take_succ_eq_append_getElem (by simpa using ho), e0, e1]
      simp
    rw [ee] at h2
    exact h2
/-- the cells of a row, from o on -/
theorem St.rowRange {w : World} {Ps : List Asn} (H : St B w0 w Ps) (i : Nat) {g : Nat} {xs : List Value} (hi : Ps[i]? = some (ARow e size (.slice (some ⟨g, 0, none⟩) n cap) n xs)) (j : Nat) (hj : j < n * size) : w.cell? ⟨g, j, none⟩ = xs[j]? ∧ w.frozen? ⟨g, j, none⟩ = false := by
  obtain ⟨g', hg', ⟨u, hu, hc⟩, hf, _⟩ := H.rowAt i hi j hj
  cases hg'
  exact ⟨by rw [hc, hu], hf⟩
end

theorem flat_at {α : Type} (f : α → List Value) (c : Nat) : ∀ (L : List α), (∀ a ∈ L, (f a).length = c) → ∀ (k : Nat) (a : α), L[k]? = some a → ∀ j, j < c → (L.flatMap f)[k * c + j]? = (f a)[j]?
  | [], _, k, a, h, _, _ => by simp at h
  | x :: L, hl, 0, a, h, j, hj => by
    have h2 : x = a := by simpa using h
    subst h2
    have hx := hl x (List.mem_cons_self ..)
    rw [Nat.zero_mul, Nat.zero_add, List.flatMap_cons, List.getElem?_append_left (by omega)]
  | x :: L, hl, k + 1, a, h, j, hj => by
    have hx := hl x (List.mem_cons_self ..)
    rw [List.flatMap_cons, List.getElem?_append_right (by rw [hx, Nat.add_mul]; omega), hx, show (k + 1) * c + j - c = k * c + j by rw [Nat.add_mul]; omega]
    exact flat_at f c L (fun y hy => hl y (List.mem_cons_of_mem _ hy)) k a (by simpa using h) j hj
theorem flat_length {α : Type} (f : α → List Value) (c : Nat) : ∀ (L : List α), (∀ a ∈ L, (f a).length = c) → (L.flatMap f).length = L.length * c
  | [], _ => by simp
  | x :: L, hl => by
    rw [List.flatMap_cons, List.length_append, hl x (List.mem_cons_self ..), flat_length f c L (fun y hy => hl y (List.mem_cons_of_mem _ hy)), List.length_cons, Nat.add_mul, Nat.one_mul, Nat.add_comm]
/-- what the type of an element is like -/
structure Many (P : Program) (t e : TypeId) (size bytes : Nat) : Prop where
  slice : P.underlying t = some (.slice e)
  info : (P.info? e).map (fun i => (i.zero.map (·.cells.size), i.size, i.bytes)) = some (some size, size, bytes)
  pos : 0 < size
section
variable {P : Program} {B : Nat} {w0 w : World} {Ps : List Asn} {t e : TypeId} {size bytes : Nat}
/-- append of several onto a row of one's own -/
theorem run_many_append (O : Many P t e size bytes) (H : St B w0 w Ps) (i : Nat) {v : Value} {n : Nat} {xs : List Value} (hi : Ps[i]? = some (ARow e size v n xs)) (ty : TypeId)
    (ao : Option Addr) (m c : Nat) (news : List Value) (hno : ao = none → m = 0 ∧ c = 0) (hl : news.length = m * size) (hc : ∀ a, ao = some a → ∀ j u, news[j]? = some u → w.cell? (a.add j) = some u) (h1 : ∀ u ∈ news, u.oneCell' = true) (b1 : n + m ≤ 1000000) (b2 : bytes ≤ 10000) :
    ∃ ao' cap' w', (Builtin.append_ #[t, t] ty #[v, .slice ao m c]).run P w = .ok (.slice ao' (n + m) cap') w' ∧ St B w0 w' (Ps.set i (ARow e size (.slice ao' (n + m) cap') (n + m) (xs ++ news))) := by
  obtain ⟨i0, hi0, hz⟩ := Option.map_eq_some_iff.1 O.info
  simp only [Prod.mk.injEq] at hz
  obtain ⟨hz0, hz1, hz2⟩ := hz
  obtain ⟨z, hz3, hz4⟩ := Option.map_eq_some_iff.1 hz0
  obtain ⟨S, hS, _, put⟩ := H.at i hi
  obtain ⟨v', w', T', hr, hrow, hst⟩ := run_append_row (P := P) w t ty e i0 z size bytes O.slice hi0 hz3 hz1 hz2 hz4 O.pos v n xs hS ao m c news hno hl hc h1 (by unfold maxLen; omega) (Nat.le_trans (Nat.mul_le_mul b1 b2) (by decide))
  obtain ⟨ao', cap', rfl, _⟩ := hrow.form
  exact ⟨ao', cap', w', hr, put T' w' (ARow e size (.slice ao' (n + m) cap') (n + m) (xs ++ news)) hrow hst⟩
theorem wpList_many_append {ops : Array Oper} {rest : List Oper} {o : Oper} {a : Act} {Q : Exit → Act → World → Prop} (O : Many P t e size bytes) (hgd : o.guard = none) (s x : Operand)
    (ho : o.op = .call { callee := .builtin .append, args := #[s, x], argTypes := #[t, t] }) (H : St B w0 w Ps) (i : Nat) {v : Value} {n : Nat} {xs : List Value} (hi : Ps[i]? = some (ARow e size v n xs)) (hs : a.eval s = v)
    (ao : Option Addr) (m c : Nat) (news : List Value) (hx : a.eval x = .slice ao m c) (hno : ao = none → m = 0 ∧ c = 0) (hl : news.length = m * size) (hc : ∀ a, ao = some a → ∀ j u, news[j]? = some u → w.cell? (a.add j) = some u) (h1 : ∀ u ∈ news, u.oneCell' = true) (b1 : n + m ≤ 1000000) (b2 : bytes ≤ 10000)
    (h : ∀ ao' cap' w', St B w0 w' (Ps.set i (ARow e size (.slice ao' (n + m) cap') (n + m) (xs ++ news))) → wpList P ops Q rest (a.put o.dst (.slice ao' (n + m) cap')) w') : wpList P ops Q (o :: rest) a w := by
  refine wpList_plain hgd fun K hK => ?_
  obtain ⟨ao', cap', w', hrun, h1⟩ := run_many_append O H i hi o.type ao m c news hno hl hc h1 b1 b2
  unfold Oper.wp
  simp [execOp, ho, resolve, invoke, builtin, hs, hx, hrun, Result.andThen]
  exact hK _ _ (h ao' cap' w' h1)
theorem St.perm_app {Xs Ys Zs : List Asn} (h : St B w0 w (Xs ++ (Ys ++ Zs))) : St B w0 w (Ys ++ (Zs ++ Xs)) := h.perm (by
  have : (Xs ++ (Ys ++ Zs)).Perm ((Ys ++ Zs) ++ Xs) := List.perm_append_comm
  rwa [List.append_assoc] at this)
end
section
variable {P : Program} {t e : TypeId} {size bytes : Nat} {B : Nat} {w0 w : World} {Ps : List Asn}
end
/-- a new variable of many cells -/
theorem wpList_allocZ {P : Program} {ops : Array Oper} {rest : List Oper} {o : Oper} {a : Act} {w : World} {Q : Exit → Act → World → Prop} (hgd : o.guard = none) (ty : TypeId) (ho : o.op = .alloc ty) (z : Array Value) (hz : (P.info? ty).bind (·.zero) = some (.agg z))
    (h : wpList P ops Q rest (a.put o.dst (.pointer (some ⟨w.heap.size, 0, none⟩))) (w.alloc (.cells z ty))) : wpList P ops Q (o :: rest) a w := by
  refine wpList_plain hgd fun K hK => ?_
  obtain ⟨i, hi, hi2⟩ := Option.bind_eq_some_iff.1 hz
  unfold Oper.wp
  simp [execOp, ho, Instr.alloc, zeroValue, typeInfo, hi, hi2, Result.andThen]
  exact hK _ _ h
/-- a struct literal, its cells known -/
theorem wpList_built {P : Program} {ops : Array Oper} {rest : List Oper} {o : Oper} {a : Go.Act} {w : World} {Q : Exit → Go.Act → World → Prop} (hgd : o.guard = none) (t : TypeId) (parts : Array (Nat × Operand)) (ho : o.op = .build t parts) (cells : Array Value)
    (hf : P.built t (parts.map fun (i, x) => (i, a.eval x)).toList = some cells) (h : wpList P ops Q rest (a.put o.dst (.agg cells)) w) : wpList P ops Q (o :: rest) a w := by
  refine wpList_plain hgd fun K hK => ?_
  have := run_build w t (parts.map fun (i, x) => (i, a.eval x)) cells hf
  unfold Oper.wp
  simp [execOp, ho, this, Result.andThen]
  exact hK _ _ h
end Go.Own

end
section
namespace Go.Own
open Go.RowKit
/-- a type of c cells, its zero value -/
structure Boxy (P : Program) (ty : TypeId) (c : Nat) : Prop where
  zero : ∃ z : Array Value, (P.info? ty).bind (·.zero) = some (.agg z) ∧ z.size = c
  size : (P.info? ty).map (·.size) = some c
theorem boxy_of {P : Program} {ty : TypeId} {c : Nat} (z : Array Value) (h : (P.info? ty).bind (·.zero) = some (.agg z)) (hz : z.size = c) (hs : (P.info? ty).map (·.size) = some c) : Boxy P ty c := ⟨⟨z, h, hz⟩, hs⟩
section
variable {P : Program} {B : Nat} {w0 : World} {Ps : List Asn}
/-- x := value -/
theorem wpList_box2 {ops : Array Oper} {rest : List Oper} {o1 o2 : Oper} {a : Act} {w : World} {Q : Exit → Act → World → Prop} {ty : TypeId} {c : Nat} (O : Boxy P ty c) (hg1 : o1.guard = none) (hg2 : o2.guard = none) (ho1 : o1.op = .alloc ty) (x y : Operand) (ho2 : o2.op = .store ty x y) (hd2 : o2.dst = none)
    (cs : List Value) (hx : ∀ v, (a.put o1.dst v).eval x = v) (hy : ∀ v, (a.put o1.dst v).eval y = .agg cs.toArray) (hc : cs.length = c) (h1 : ∀ u ∈ cs, u.oneCell' = true) (H : St B w0 w Ps)
    (h : ∀ b w', St B w0 w' (AVals b ty cs :: Ps) → wpList P ops Q rest (a.put o1.dst (.pointer (some ⟨b, 0, none⟩))) w') : wpList P ops Q (o1 :: o2 :: rest) a w := by
  obtain ⟨z, hz, hzl⟩ := O.zero
  refine wpList_allocZ hg1 ty ho1 z hz ?_
  have hb := H.boxV ty z.toList
  have hzz : z.toList.toArray = z := by simp
  rw [hzz] at hb
  have ht : (w.alloc (.cells z ty)).there w.heap.size 0 cs.toArray.size := hb.thereV 0 rfl (by rw [List.size_toArray, hc, Array.length_toList, hzl]; exact Nat.le_refl _)
  refine wpList_store_mid hg2 ty x y ho2 w.heap.size 0 cs.toArray (hx _) (hy _) ht (by rw [List.size_toArray, hc]; exact O.size) (all_oneCell_toArray h1) ?_
  have hs := St.setAll 0 cs 0 _ _ z.toList hb rfl (by rw [Nat.zero_add, hc, Array.length_toList, hzl])
  simp only [List.set_cons_zero, List.take_zero, List.nil_append] at hs
  rw [hd2, List.toList_toArray]
  exact h _ _ hs
/-- var x: its zero value -/
theorem wpList_newZ {ops : Array Oper} {rest : List Oper} {o : Oper} {a : Act} {w : World} {Q : Exit → Act → World → Prop} {ty : TypeId} (z : List Value) (hz : (P.info? ty).bind (·.zero) = some (.agg z.toArray)) (hg : o.guard = none) (ho : o.op = .alloc ty) (H : St B w0 w Ps)
    (h : ∀ b w', St B w0 w' (AVals b ty z :: Ps) → wpList P ops Q rest (a.put o.dst (.pointer (some ⟨b, 0, none⟩))) w') : wpList P ops Q (o :: rest) a w :=
  wpList_allocZ hg ty ho z.toArray hz (h _ _ (H.boxV ty z))
/-- x = value -/
theorem wpList_fill {ops : Array Oper} {rest : List Oper} {o : Oper} {a : Act} {w : World} {Q : Exit → Act → World → Prop} {ty : TypeId} {c b : Nat} (O : Boxy P ty c) (hg : o.guard = none) (x y : Operand) (ho : o.op = .store ty x y) (hd : o.dst = none) (H : St B w0 w Ps) (i : Nat) {vs : List Value} (hi : Ps[i]? = some (AVals b ty vs)) (hv : vs.length = c)
    (cs : List Value) (hx : a.eval x = .pointer (some ⟨b, 0, none⟩)) (hy : a.eval y = .agg cs.toArray) (hc : cs.length = c) (h1 : ∀ u ∈ cs, u.oneCell' = true)
    (h : ∀ w', St B w0 w' (Ps.set i (AVals b ty cs)) → wpList P ops Q rest a w') : wpList P ops Q (o :: rest) a w := by
  have ht : w.there b 0 cs.toArray.size := H.thereV i hi (by rw [List.size_toArray, hc, hv]; exact Nat.le_refl _)
  refine wpList_store_mid hg ty x y ho b 0 cs.toArray hx hy ht (by rw [List.size_toArray, hc]; exact O.size) (all_oneCell_toArray h1) ?_
  have hs := St.setAll i cs 0 w Ps vs H hi (by rw [Nat.zero_add, hc, hv])
  simp only [List.take_zero, List.nil_append] at hs
  rw [hd, List.toList_toArray]
  exact h _ hs
/-- such a variable is loaded -/
theorem St.boxRange {w : World} {b : Nat} {ty : TypeId} {cs : List Value} (H : St B w0 w Ps) (i : Nat) (hi : Ps[i]? = some (AVals b ty cs)) : w.rangeAt b 0 cs := fun j v hv => by rw [Nat.zero_add]; exact (H.cellV i hi j hv).1
end
end Go.Own

end
section
namespace Go.Proofs.Ytepbdjgfaljbgaa
open Go.RowKit Go.Own
namespace Sto
open Go.StoM Byt
theorem ltB_less : ∀ a b : List UInt8, Op.bytesLess a b = ltB a b
  | [], [] => rfl
  | _ :: _, [] => rfl
  | [], _ :: _ => rfl
  | x :: a, y :: b => by
    unfold Op.bytesLess ltB
    rw [ltB_less a b]
    have h1 : decide (x < y) = decide (x.toNat < y.toNat) := by simp [UInt8.lt_iff_toNat_lt]
    have h2 : (x == y) = decide (x.toNat = y.toNat) := by
      by_cases h : x = y
      · subst h; simp
      · have : ¬ x.toNat = y.toNat := fun e => h (UInt8.toNat_inj.1 e)
        simp [h, this]
    rw [h1, h2]
theorem lss_str {o : Oper} {X Y : Operand} (ho : o.op = .binOp .lss 9 X Y 9) {a b : List UInt8} {t : Bool} (ht : ltB a b = t) (ρ : Operand → Value) (w : World) (h0 : ρ X = .string (strB a)) (h1 : ρ Y = .string (strB b)) : (execOp ρ o).run Try.prog w = .ok (.value (.bool t)) w := by
  subst ht
  simp [execOp, ho, h0, h1, go_sem, strB_toList, ltB_less]
theorem eql_s {o : Oper} {X Y : Operand} (ho : o.op = .binOp .eql 9 X Y 9) {a b : List UInt8} {t : Bool} (ht : decide (a = b) = t) (ρ : Operand → Value) (w : World) (h0 : ρ X = .string (strB a)) (h1 : ρ Y = .string (strB b)) : (execOp ρ o).run Try.prog w = .ok (.value (.bool t)) w := by
  subst ht
  by_cases h : a = b
  · subst h
    simp [execOp, ho, h0, h1, go_sem]
  · simp [execOp, ho, h0, h1, go_sem, strB_toList, h]
/-- a[:] of a fingerprint in memory -/
theorem sum_all {o : Oper} {X : Operand} (ho : o.op = .slice 34 X none none none) {b : Nat} (ρ : Operand → Value) (w : World) (h0 : ρ X = .pointer (some ⟨b, 0, none⟩)) : (execOp ρ o).run Try.prog w = .ok (.value (.slice (some ⟨b, 0, none⟩) 32 32)) w := by
  simp [execOp, ho, h0, go_sem, Try.underlying34]
theorem sum_str {w : World} {b : Nat} {s : List UInt8} (hs : s.length = 32) (hb : b < w.heap.size) (h : ∀ j u, (s.map byteV)[j]? = some u → w.cell? ⟨b, j, none⟩ = some u) : (convert 114 9 (.slice (some ⟨b, 0, none⟩) 32 32)).run Try.prog w = .ok (.string (strB s)) w := by
  have hv : View w (fun _ => True) (some ⟨b, 0, none⟩) s := .inr ⟨b, 0, rfl, trivial, hb, fun j hj => by
    have := h j (byteV s[j]) (by rw [List.getElem?_map, List.getElem?_eq_getElem hj]; rfl)
    rw [Nat.zero_add, List.getD_eq_getElem?_getD, List.getElem?_eq_getElem hj]
    exact this⟩
  have := run_str (P := Try.prog) 114 5 9 Try.underlying114 Try.underlying5 Try.underlying9 hv 32
  rw [hs] at this
  exact this
end Sto
end Go.Proofs.Ytepbdjgfaljbgaa

end
section
namespace Go.Proofs.Ytepbdjgfaljbgaa
open Go.RowKit Go.Own
namespace Sto
open Go.StoM Byt
set_option maxRecDepth 10000 in
set_option maxHeartbeats 1600000 in
/-- does a key stand ahead of another one? -/
theorem lessR_any (s1 s2 : List UInt8) (n1 n2 : Nat) (h1 : s1.length = 32) (h2 : s2.length = 32) (w : World) :
    Calls Try.prog 39 #[.agg (Rec.keyC s1 n1).toArray, .agg (Rec.keyC s2 n2).toArray] w fun e w' => e = .returned (.bool (lessK ⟨s1, n1⟩ ⟨s2, n2⟩)) ∧ Below w.heap.size w w' := by
  obtain ⟨c1, hc1⟩ : ∃ c, c = Rec.keyC s1 n1 := ⟨_, rfl⟩
  obtain ⟨c2, hc2⟩ : ∃ c, c = Rec.keyC s2 n2 := ⟨_, rfl⟩
  have b1 := (Own.St.start w).boxV 36 c1
  obtain ⟨W1, hW1⟩ : ∃ W, W = w.alloc (.cells c1.toArray 36) := ⟨_, rfl⟩
  rw [← hW1] at b1
  have b2 := b1.boxV 36 c2
  obtain ⟨W2, hW2⟩ : ∃ W, W = W1.alloc (.cells c2.toArray 36) := ⟨_, rfl⟩
  rw [← hW2] at b2
  have HB := Lib.hid b2.below
  obtain ⟨p1, hp1⟩ : ∃ p, p = w.heap.size := ⟨_, rfl⟩
  obtain ⟨p2, hp2⟩ : ∃ p, p = W1.heap.size := ⟨_, rfl⟩
  rw [← hp1, ← hp2] at b2
  have R1 : (convert 114 9 (.slice (some ⟨p1, 0, none⟩) 32 32)).run Try.prog W2 = .ok (.string (strB s1)) W2 := sum_str h1 (b2.ltV 1 rfl).2 (fun j u hu => by
    refine (b2.cellV 1 rfl j ?_).1
    rw [hc1]
    show (s1.map byteV ++ _)[j]? = some u
    rw [List.getElem?_append_left (by have := (List.getElem?_eq_some_iff.1 hu).1; exact this)]
    exact hu)
  have R2 : (convert 114 9 (.slice (some ⟨p2, 0, none⟩) 32 32)).run Try.prog W2 = .ok (.string (strB s2)) W2 := sum_str h2 (b2.ltV 0 rfl).2 (fun j u hu => by
    refine (b2.cellV 0 rfl j ?_).1
    rw [hc2]
    show (s2.map byteV ++ _)[j]? = some u
    rw [List.getElem?_append_left (by have := (List.getElem?_eq_some_iff.1 hu).1; exact this)]
    exact hu)
  have d1 := (b2.cellV 1 rfl 32 (v := .int .u32 (n1 : Int)) (by rw [hc1]; show (s1.map byteV ++ _)[32]? = _; rw [List.getElem?_append_right (by simp [h1])]; simp [h1])).1
  have d2 := (b2.cellV 0 rfl 32 (v := .int .u32 (n2 : Int)) (by rw [hc2]; show (s2.map byteV ++ _)[32]? = _; rw [List.getElem?_append_right (by simp [h2])]; simp [h2])).1
  have E1 := hW1.symm
  have E2 := hW2.symm
  have HP1 := hp1.symm
  have HP2 := hp2.symm
  obtain ⟨lt, hlt⟩ : ∃ t, ltB s1 s2 = t := ⟨_, rfl⟩
  obtain ⟨eq, heq⟩ : ∃ t, decide (s1 = s2) = t := ⟨_, rfl⟩
  have HL := Lib.hid hlt
  have HQ := Lib.hid heq
  have HV : Hid (lessK ⟨s1, n1⟩ ⟨s2, n2⟩ = (lt || (eq && decide (n1 < n2)))) := by show _ = _; unfold lessK; simp only; rw [hlt, heq]
  rw [HV.out, ← hc1, ← hc2]
  clear b1 b2 hW1 hW2 hp1 hp2 hlt heq hc1 hc2
  cases lt with
  | true =>
      rw [Bool.true_or]
      go_enter Try.func39, Try.ntmps39
      go_wp2_with (first
        | (refine wpList_val rfl (sum_all (X := .tmp 7) rfl _ _ rfl) ?_)
        | (refine wpList_val rfl (sum_all (X := .tmp 10) rfl _ _ rfl) ?_)
        | (refine wpList_val rfl (lss_str (X := .tmp 13) rfl HL.out _ _ rfl rfl) ?_)
        | (refine wpList_val rfl (eql_s (X := .tmp 17) rfl HQ.out _ _ rfl rfl) ?_))
      go_ret
      exact ⟨rfl, by first | exact HB.out | (rw [← HP1]; exact HB.out)⟩
  | false =>
    rw [Bool.false_or]
    cases eq with
    | false =>
      rw [Bool.false_and]
      go_enter Try.func39, Try.ntmps39
      go_wp2_with (first
        | (refine wpList_val rfl (sum_all (X := .tmp 7) rfl _ _ rfl) ?_)
        | (refine wpList_val rfl (sum_all (X := .tmp 10) rfl _ _ rfl) ?_)
        | (refine wpList_val rfl (lss_str (X := .tmp 13) rfl HL.out _ _ rfl rfl) ?_)
        | (refine wpList_val rfl (eql_s (X := .tmp 17) rfl HQ.out _ _ rfl rfl) ?_))
      go_ret
      exact ⟨rfl, by first | exact HB.out | (rw [← HP1]; exact HB.out)⟩
    | true =>
      rw [Bool.true_and]
      by_cases hn : (n1 : Int) < (n2 : Int)
      · rw [decide_eq_true (show n1 < n2 by omega)]
        go_enter Try.func39, Try.ntmps39
        go_wp2_with (first
          | (refine wpList_val rfl (sum_all (X := .tmp 7) rfl _ _ rfl) ?_)
          | (refine wpList_val rfl (sum_all (X := .tmp 10) rfl _ _ rfl) ?_)
          | (refine wpList_val rfl (lss_str (X := .tmp 13) rfl HL.out _ _ rfl rfl) ?_)
          | (refine wpList_val rfl (eql_s (X := .tmp 17) rfl HQ.out _ _ rfl rfl) ?_))
        go_ret
        exact ⟨rfl, by first | exact HB.out | (rw [← HP1]; exact HB.out)⟩
      · rw [decide_eq_false (show ¬ n1 < n2 by omega)]
        go_enter Try.func39, Try.ntmps39
        go_wp2_with (first
          | (refine wpList_val rfl (sum_all (X := .tmp 7) rfl _ _ rfl) ?_)
          | (refine wpList_val rfl (sum_all (X := .tmp 10) rfl _ _ rfl) ?_)
          | (refine wpList_val rfl (lss_str (X := .tmp 13) rfl HL.out _ _ rfl rfl) ?_)
          | (refine wpList_val rfl (eql_s (X := .tmp 17) rfl HQ.out _ _ rfl rfl) ?_))
        go_ret
        exact ⟨rfl, by first | exact HB.out | (rw [← HP1]; exact HB.out)⟩
end Sto
end Go.Proofs.Ytepbdjgfaljbgaa

end
section
namespace Go.Own
open Go.RowKit
section
variable {α : Type}
/-- an act in memory -/
def inE (enc : α → List Value) (Fit : α → Prop) : InT α := fun a _ _ cs => cs = enc a ∧ Fit a
/-- .. where the number of cells hangs on what fits -/
theorem acts_inF {enc : α → List Value} {Fit : α → Prop} {c : Nat} (hc : ∀ a, Fit a → (enc a).length = c) {l : List α} {B : Nat} {w : World} {ao : Option Addr} {n cap : Nat} (h : inSlice c (inE enc Fit) l B w [.slice ao n cap]) :
    n = l.length ∧ n ≤ cap ∧ cap ≤ maxLen ∧ (ao = none → cap = 0) ∧ (l ≠ [] → ∃ b o, ao = some ⟨b, o, none⟩ ∧ b < B ∧ ∀ w' : World, (∀ k, k < B → w'.heap[k]? = w.heap[k]?) → ∀ k (hk : k < l.length), w'.rangeAt b (o + k * c) (enc l[k]) ∧ Fit l[k]) := by
  obtain ⟨ao', cap', h1, h2, h3, h4, h5⟩ := h
  simp only [List.cons.injEq, Value.slice.injEq, and_true] at h1
  obtain ⟨rfl, rfl, rfl⟩ := h1
  refine ⟨rfl, h2, h3, h4, fun hne => ?_⟩
  rcases h5 with rfl | ⟨b, o, e, hb, hs, hcc⟩
  · exact absurd rfl hne
  · refine ⟨b, o, e, hb, fun w' hw' k hk => ?_⟩
    obtain ⟨cs', g1, g2, g3⟩ := hcc k hk
    obtain ⟨rfl, q6⟩ := g3
    refine ⟨fun j v hv => ?_, q6⟩
    have hj : j < c := by rw [← hc l[k] q6]; exact (List.getElem?_eq_some_iff.1 hv).1
    have := (World.cell?_of_block (w := w) (hw' b hb)).trans (g2 j hj)
    rw [Nat.add_assoc, this, hv]
end
end Go.Own

end
section
namespace Go.TabM
structure Sg where
  kind : Nat
  seq : Nat
  wear : Nat
def zS : Sg := ⟨0, 0, 0⟩
structure T where
  rows : List Sg
  next : Nat
def at_ (l : List Sg) (i : Nat) : Sg := l.getD i zS
/-- the first open segment, from i on -/
def curF : Nat → List Sg → Option Nat
  | _, [] => none
  | i, s :: l => if s.kind = 1 then some i else curF (i + 1) l
def cur (t : T) : Option Nat := curF 0 t.rows
/-- is a segment taken in the place of the best one so far -/
def takes (b : Option (Nat × Nat)) (s : Sg) : Bool := decide (s.kind = 0) && (match b with | none => true | some p => decide (s.wear < p.2))
def bestF : Option (Nat × Nat) → Nat → List Sg → Option (Nat × Nat)
  | b, _, [] => b
  | b, i, s :: l => bestF (if takes b s then some (i, s.wear) else b) (i + 1) l
def best (t : T) : Option (Nat × Nat) := bestF none 0 t.rows
def opened (t : T) (i w : Nat) : T := ⟨t.rows.set i ⟨1, t.next, w + 1⟩, t.next + 1⟩
/-- Open: what it leaves; the segment, its number, the error -/
def openT (t : T) : T × (Nat × Nat × Nat) :=
  match cur t with
  | some _ => (t, (0, 0, 3))
  | none => match best t with
    | none => (t, (0, 0, 5))
    | some (i, w) => (opened t i w, (i, t.next, 0))
def sealT (t : T) : T × Nat :=
  match cur t with
  | none => (t, 2)
  | some i => (⟨t.rows.set i { at_ t.rows i with kind := 2 }, t.next⟩, 0)
def relT (t : T) (seg : Int) : T × Nat :=
  if seg < 0 ∨ (t.rows.length : Int) ≤ seg then (t, 1)
  else if (at_ t.rows seg.toNat).kind ≠ 2 then (t, 2)
  else (⟨t.rows.set seg.toNat ⟨0, 0, (at_ t.rows seg.toNat).wear⟩, t.next⟩, 0)
structure ActD where
  kind : UInt8
  seg : Int
def doAct (t : T) (a : ActD) : T × (Nat × Nat × Nat) :=
  match a.kind.toNat % 3 with
  | 0 => openT t
  | 1 => ((sealT t).1, (0, 0, (sealT t).2))
  | _ => ((relT t a.seg).1, (0, 0, (relT t a.seg).2))

theorem at_eq {l : List Sg} {i : Nat} {s : Sg} (h : l[i]? = some s) : at_ l i = s := by unfold at_; rw [List.getD_eq_getElem?_getD, h]; rfl
theorem at_get {l : List Sg} {i : Nat} (h : i < l.length) : l[i]? = some (at_ l i) := by
  unfold at_; rw [List.getD_eq_getElem?_getD, List.getElem?_eq_getElem h]; rfl
theorem at_mem {l : List Sg} {i : Nat} (h : i < l.length) : at_ l i ∈ l := List.mem_of_getElem? (at_get h)

/-! ### what a table is -/
structure Ok (t : T) (N : Nat) : Prop where
  len : t.rows.length ≤ 256
  kind : ∀ s ∈ t.rows, s.kind ≤ 2
  wear : ∀ s ∈ t.rows, s.wear ≤ N
  seq : ∀ s ∈ t.rows, s.seq ≤ N
  low : 1 ≤ t.next
  next : t.next ≤ N + 1
theorem Ok.more {t : T} {N M : Nat} (h : Ok t N) (hm : N ≤ M) : Ok t M :=
  ⟨h.len, h.kind, fun s hs => Nat.le_trans (h.wear s hs) hm, fun s hs => Nat.le_trans (h.seq s hs) hm, h.low, by have := h.next; omega⟩
theorem curF_some : ∀ (l : List Sg) (j i : Nat), curF j l = some i → ∃ k s, i = j + k ∧ l[k]? = some s ∧ s.kind = 1
  | [], _, _, h => by cases h
  | s :: l, j, i, h => by
    unfold curF at h
    by_cases hs : s.kind = 1
    · rw [if_pos hs] at h
      cases h
      exact ⟨0, s, rfl, rfl, hs⟩
    · rw [if_neg hs] at h
      obtain ⟨k, s', e, h1, h2⟩ := curF_some l (j + 1) i h
      exact ⟨k + 1, s', by omega, h1, h2⟩
theorem cur_some {t : T} {i : Nat} (h : cur t = some i) : i < t.rows.length ∧ (at_ t.rows i).kind = 1 := by
  obtain ⟨k, s, e, h1, h2⟩ := curF_some _ _ _ h
  rw [Nat.zero_add] at e
  subst e
  exact ⟨(List.getElem?_eq_some_iff.1 h1).1, by rw [at_eq h1]; exact h2⟩
theorem curF_none : ∀ (l : List Sg) (j : Nat), curF j l = none → ∀ s ∈ l, s.kind ≠ 1
  | [], _, _, s, hs => by cases hs
  | x :: l, j, h, s, hs => by
    unfold curF at h
    by_cases hx : x.kind = 1
    · rw [if_pos hx] at h; cases h
    · rw [if_neg hx] at h
      rcases List.mem_cons.1 hs with rfl | hs
      · exact hx
      · exact curF_none l _ h s hs
theorem bestF_some : ∀ (l : List Sg) (b : Option (Nat × Nat)) (j : Nat) (p : Nat × Nat), bestF b j l = some p → b = some p ∨ ∃ k s, p.1 = j + k ∧ l[k]? = some s ∧ s.kind = 0 ∧ s.wear = p.2
  | [], b, j, p, h => .inl h
  | x :: l, b, j, p, h => by
    unfold bestF at h
    rcases bestF_some l _ _ _ h with h1 | ⟨k, s, e, h1, h2, h3⟩
    · by_cases ht : takes b x = true
      · rw [if_pos ht] at h1
        cases h1
        refine .inr ⟨0, x, rfl, rfl, ?_, rfl⟩
        unfold takes at ht
        simp only [Bool.and_eq_true, decide_eq_true_eq] at ht
        exact ht.1
      · rw [if_neg ht] at h1
        exact .inl h1
    · exact .inr ⟨k + 1, s, by omega, h1, h2, h3⟩
theorem best_some {t : T} {i w : Nat} (h : best t = some (i, w)) : i < t.rows.length ∧ (at_ t.rows i).kind = 0 ∧ (at_ t.rows i).wear = w := by
  rcases bestF_some _ _ _ _ h with h1 | ⟨k, s, e, h1, h2, h3⟩
  · cases h1
  · simp only [Nat.zero_add] at e h3
    subst e
    exact ⟨(List.getElem?_eq_some_iff.1 h1).1, by rw [at_eq h1]; exact h2, by rw [at_eq h1]; exact h3⟩
theorem mem_set {l : List Sg} {i : Nat} {x s : Sg} (h : s ∈ l.set i x) : s = x ∨ s ∈ l := by
  rcases List.mem_or_eq_of_mem_set h with h | h
  · exact .inr h
  · exact .inl h
/-! ### which rows are loaded -/
structure LoadOk (rows : List Sg) (next : Nat) : Prop where
  len : rows.length ≤ 256
  low : 1 ≤ next
  free : ∀ s ∈ rows, s.kind = 0 → s.seq = 0
  used : ∀ s ∈ rows, s.kind ≠ 0 → s.kind ≤ 2 ∧ 1 ≤ s.seq ∧ s.seq < next
  apart : ∀ i j (hi : i < rows.length) (hj : j < rows.length), i ≠ j → rows[i].seq = rows[j].seq → rows[i].seq = 0
  one : ∀ i j (hi : i < rows.length) (hj : j < rows.length), rows[i].kind = 1 → rows[j].kind = 1 → i = j
/-- a row is changed -/
theorem load_set {rows : List Sg} {next m i : Nat} {x : Sg} (h : LoadOk rows next) (hm : next ≤ m) (hi : i < rows.length) (hf : x.kind = 0 → x.seq = 0) (hu : x.kind ≠ 0 → x.kind ≤ 2 ∧ 1 ≤ x.seq ∧ x.seq < m)
    (ha : ∀ j (hj : j < rows.length), j ≠ i → rows[j].seq = x.seq → x.seq = 0) (ho : x.kind = 1 → ∀ j (hj : j < rows.length), j ≠ i → rows[j].kind ≠ 1) : LoadOk (rows.set i x) m := by
  refine ⟨by simpa using h.len, Nat.le_trans h.low hm, ?_, ?_, ?_, ?_⟩
  · intro s hs hk
    rcases mem_set hs with rfl | hs
    · exact hf hk
    · exact h.free s hs hk
  · intro s hs hk
    rcases mem_set hs with rfl | hs
    · exact hu hk
    · obtain ⟨a, b, c⟩ := h.used s hs hk
      exact ⟨a, b, Nat.lt_of_lt_of_le c hm⟩
  · intro a b ha1 hb1 hab e
    simp only [List.length_set] at ha1 hb1
    simp only [List.getElem_set] at e ⊢
    by_cases h1 : i = a
    · subst h1
      rw [if_pos rfl] at e ⊢
      rw [if_neg hab] at e
      exact ha b hb1 (fun e => hab e.symm) e.symm
    · rw [if_neg h1] at e ⊢
      by_cases h2 : i = b
      · subst h2
        rw [if_pos rfl] at e
        rw [e]
        exact ha a ha1 hab e
      · rw [if_neg h2] at e
        exact h.apart a b ha1 hb1 hab e
  · intro a b ha1 hb1 ea eb
    simp only [List.length_set] at ha1 hb1
    simp only [List.getElem_set] at ea eb
    by_cases h1 : i = a
    · subst h1
      rw [if_pos rfl] at ea
      by_cases h2 : i = b
      · exact h2
      · rw [if_neg h2] at eb
        exact absurd eb (ho ea b hb1 (fun e => h2 e.symm))
    · rw [if_neg h1] at ea
      by_cases h2 : i = b
      · subst h2
        rw [if_pos rfl] at eb
        exact absurd ea (ho eb a ha1 (fun e => h1 e.symm))
      · rw [if_neg h2] at eb
        exact h.one a b ha1 hb1 ea eb
theorem at_lt {l : List Sg} {i : Nat} (h : i < l.length) : at_ l i = l[i] := at_eq (List.getElem?_eq_getElem h)
theorem load_act {t : T} (h : LoadOk t.rows t.next) (a : ActD) : LoadOk (doAct t a).1.rows (doAct t a).1.next := by
  unfold doAct
  split
  · unfold openT
    split
    · exact h
    · rename_i hc
      split
      · exact h
      · rename_i i w hb
        obtain ⟨hi, hk, hw⟩ := best_some hb
        refine load_set h (Nat.le_succ _) hi (fun e => by cases e) (fun _ => ⟨Nat.le_succ 1, h.low, Nat.lt_succ_self _⟩) ?_ ?_
        · intro j hj hne e
          by_cases hjk : t.rows[j].kind = 0
          · have := h.free _ (List.getElem_mem hj) hjk
            simp only at e ⊢
            omega
          · have := (h.used _ (List.getElem_mem hj) hjk).2.2
            simp only at e
            omega
        · intro _ j hj _
          exact curF_none _ _ hc _ (List.getElem_mem hj)
  · show LoadOk (sealT t).1.rows (sealT t).1.next
    unfold sealT
    split
    · exact h
    · rename_i i hc
      obtain ⟨hi, hk⟩ := cur_some hc
      rw [at_lt hi] at hk ⊢
      obtain ⟨u1, u2, u3⟩ := h.used _ (List.getElem_mem hi) (by omega)
      refine load_set h (Nat.le_refl _) hi (fun e => by cases e) (fun _ => ⟨Nat.le_refl 2, u2, u3⟩) ?_ (fun e => by cases e)
      intro j hj hne e
      exact (h.apart i j hi hj (fun e => hne e.symm) e.symm)
  · show LoadOk (relT t a.seg).1.rows (relT t a.seg).1.next
    unfold relT
    split
    · exact h
    · rename_i hr
      split
      · exact h
      · have hi : a.seg.toNat < t.rows.length := by omega
        exact load_set h (Nat.le_refl _) hi (fun _ => rfl) (fun e => absurd rfl e) (fun _ _ _ _ => rfl) (fun e => by cases e)

/-! ### sums -/
theorem count_none {l : List Sg} (h : ∀ s ∈ l, s.kind ≠ 1) : l.countP (fun s => decide (s.kind = 1)) = 0 := by
  rw [List.countP_eq_zero]; intro s hs; simpa using h s hs
theorem count_one : ∀ (l : List Sg) (j i : Nat), curF j l = some i → (∀ a b (ha : a < l.length) (hb : b < l.length), l[a].kind = 1 → l[b].kind = 1 → a = b) → l.countP (fun s => decide (s.kind = 1)) = 1
  | [], _, _, h, _ => by cases h
  | s :: l, j, i, h, ho => by
    unfold curF at h
    by_cases hs : s.kind = 1
    · rw [List.countP_cons_of_pos (by simpa using hs), count_none]
      intro x hx
      obtain ⟨k, hk, e⟩ := List.getElem_of_mem hx
      intro hx1
      have := ho 0 (k + 1) (by simp) (by simpa using hk) hs (by simpa [e] using hx1)
      omega
    · rw [if_neg hs] at h
      rw [List.countP_cons_of_neg (by simpa using hs)]
      refine count_one l _ _ h ?_
      intro a b ha hb h1 h2
      have := ho (a + 1) (b + 1) (by simpa using ha) (by simpa using hb) h1 h2
      omega
/-! ### numbers rise -/
end Go.TabM

end
section
namespace Go.Own
open Go.RowKit

section
variable {P : Program} {ops : Array Oper} {C : World → Prop}

/-- the slots of F that are there hold new blocks, apart from one another -/
def Fresh (ops : Array Oper) (F : List Tmp) (listed : Array Bool) (a1 : Act) (w1 : World) : Prop :=
  (∀ (j : Nat) (oj : Oper) (d : Tmp), ops[j]? = some oj → listed.getD j false = true → oj.dst = some d → d ∈ F → ∃ b, a1.tmps.getD d undef = .pointer (some ⟨b, 0, none⟩) ∧ b < w1.heap.size) ∧
  ∀ (j k : Nat) (oj ok : Oper) (d d' : Tmp), ops[j]? = some oj → ops[k]? = some ok → listed.getD j false = true → listed.getD k false = true → oj.dst = some d → ok.dst = some d' → d ∈ F → d' ∈ F → d ≠ d' → a1.tmps.getD d undef ≠ a1.tmps.getD d' undef

/-- an operation's value, and that it is the new block if the operation makes one -/
theorem with_fresh {F : List Tmp} {ob : Obj} {oi : Oper} {i : Nat} {a0 a1 : Act} {w1 : World} {R : Value → World → Prop} {K : Act → World → Prop} {Q : Exit → Act → World → Prop} (hs : a1.tmps.size = a0.tmps.size)
    (hin : ∀ (k : Nat) (o : Oper) (d : Tmp), ops[k]? = some o → o.dst = some d → d < a0.tmps.size) (hoi : ops[i]? = some oi)
    (hF : ∀ (i : Nat) (oi : Oper) (d : Tmp), ops[i]? = some oi → oi.dst = some d → d ∈ F → oi.guard = none ∧ ∀ a1 w K Q, oi.wp P a1 w K Q ↔ K (a1.put (some d) (.pointer (some ⟨w.heap.size, 0, none⟩))) (w.alloc ob))
    (h : ∀ (K : Act → World → Prop) (Q : Exit → Act → World → Prop), (∀ v w', R v w' → Below w1.heap.size w1 w' → K (a1.put oi.dst v) w') → oi.wp P a1 w1 K Q)
    (k : ∀ v w', R v w' → Below w1.heap.size w1 w' → (∀ d, oi.dst = some d → d ∈ F → v = .pointer (some ⟨w1.heap.size, 0, none⟩) ∧ w1.heap.size < w'.heap.size) → K (a1.put oi.dst v) w') : oi.wp P a1 w1 K Q := by
  by_cases hd : ∃ d, oi.dst = some d ∧ d ∈ F
  · obtain ⟨d, hd, hdF⟩ := hd
    have hi := (hF i oi d hoi hd hdF).2
    obtain ⟨v, e, hv, hb⟩ := (hi a1 w1 _ Q).1 (h (fun a' w' => ∃ v, a' = a1.put oi.dst v ∧ R v w' ∧ Below w1.heap.size w1 w') Q (fun v w' h1 h2 => ⟨v, rfl, h1, h2⟩))
    have hlt : d < a1.tmps.size := by rw [hs]; exact hin i oi d hoi hd
    have e2 : v = .pointer (some ⟨w1.heap.size, 0, none⟩) := by
      have := congrArg (fun a : Act => a.tmps.getD d undef) e
      simp only [hd] at this
      rw [put_getD a1 d d _ hlt, put_getD a1 d d _ hlt, if_pos rfl, if_pos rfl] at this
      exact this.symm
    refine (hi a1 w1 K Q).2 ?_
    have := k v _ hv hb (fun d' hd' _ => ⟨e2, by simp⟩)
    rw [hd, e2] at this
    exact this
  · exact h K Q (fun v w' h1 h2 => k v w' h1 h2 (fun d h3 h4 => absurd ⟨d, h3, h4⟩ hd))

/-- an operation waits for another, by way of others -/
inductive Reach (md : Region.Mode) (ops : Array Oper) : Oper → Nat → Prop
  | one {o : Oper} {e : Edge} {j : Nat} : e ∈ o.after → Region.binds md e = true → e.on = j → Reach md ops o j
  | step {o ok : Oper} {e : Edge} {j : Nat} : e ∈ o.after → Region.binds md e = true → ops[e.on]? = some ok → Reach md ops ok j → Reach md ops o j
theorem Reach.listed {md : Region.Mode} {ops : Array Oper} {listed : Array Bool} (hc : ∀ (j : Nat) (oj : Oper), ops[j]? = some oj → listed.getD j false = true → ∀ e ∈ oj.after, Region.binds md e = true → listed.getD e.on false = true) {o : Oper} {j : Nat} (h : Reach md ops o j) :
    (∀ e ∈ o.after, Region.binds md e = true → listed.getD e.on false = true) → listed.getD j false = true := by
  induction h with
  | one he hb hj => intro ha; rw [← hj]; exact ha _ he hb
  | step he hb hk _ ih => intro ha; exact ih (hc _ _ hk (ha _ he hb))

/-- WHATEVER ORDER IS DRAWN -/
theorem wpAny_laxF {md : Region.Mode} {Q' : Exit → Act → World → Prop} (hC : ∀ w w', C w → Below w.heap.size w w' → C w') {a0 : Act} {S : Nat → Lx × Act} (hS0 : S 0 = ([], a0))
    {n : Nat} (hn : n ≤ ops.size) (hst : ∀ (k : Nat) (o : Oper), k < n → ops[k]? = some o → StepT P ops C o (S k).1 (S k).2 (S (k + 1)).1 (S (k + 1)).2)
    (hin : ∀ (k : Nat) (o : Oper) (d : Tmp), ops[k]? = some o → o.dst = some d → d < a0.tmps.size)
    (hone : ∀ (j k : Nat) (x y : Oper) (d : Tmp), ops[j]? = some x → ops[k]? = some y → x.dst = some d → y.dst = some d → j = k)
    (hlex : ∀ (i : Nat) (oi : Oper), ops[i]? = some oi → (∀ e ∈ oi.after, Region.binds md e = true → e.on < i) ∧ ∀ j oj, i < j → ops[j]? = some oj → (∃ e ∈ oj.after, Region.binds md e = true ∧ e.on = i) ∨ oi.apart ops oj = true)
    (F : List Tmp) (ob : Obj) (hF : ∀ (i : Nat) (oi : Oper) (d : Tmp), ops[i]? = some oi → oi.dst = some d → d ∈ F → oi.guard = none ∧ ∀ a1 w K Q, oi.wp P a1 w K Q ↔ K (a1.put (some d) (.pointer (some ⟨w.heap.size, 0, none⟩))) (w.alloc ob))
    (hwait : ∀ (i : Nat) (oi : Oper), n ≤ i → ops[i]? = some oi → ∀ j, j < n → Reach md ops oi j)
    (hfin : ∀ (fuel : Nat) (listed : Array Bool) (a1 : Act) (w1 : World), (∃ s, (List.range ops.size).filter (fun i => !listed.getD i true) = s ∧ s.length = fuel) → listed.size = ops.size → (∀ i, i < n → listed.getD i true = true) → (∀ j, n ≤ j → j < ops.size → listed.getD j true = false) → Rep C (S n).1 (S n).2 a1 w1 → Fresh ops F listed a1 w1 → wpAny P md ops Q' fuel listed a1 w1) :
    ∀ (fuel : Nat) (listed : Array Bool) (a1 : Act) (w1 : World), (∃ s, (List.range ops.size).filter (fun i => !listed.getD i true) = s ∧ s.length = fuel) → RunInv md n ops C a0 S listed a1 w1 → Fresh ops F listed a1 w1 → wpAny P md ops Q' fuel listed a1 w1 := by
  -- all that is not listed: none is ready only if none is left
  have hready : ∀ listed : Array Bool, listed.size = ops.size → Region.ready md ops listed = [] → ∀ i, i < ops.size → listed.getD i true = true := by
    intro listed hls hr i
    induction i using Nat.strongRecOn with
    | _ i ih =>
      intro hi
      rcases hb : listed.getD i true with _ | _
      · exfalso
        have : i ∈ Region.ready md ops listed := by
          refine mem_ready.2 ⟨hb, ops[i], Array.getElem?_eq_getElem hi, fun e he hbd => ?_⟩
          have h1 := (hlex i _ (Array.getElem?_eq_getElem hi)).1 e he hbd
          have h2 := ih e.on h1 (by omega)
          have h3 : e.on < listed.size := by omega
          simpa [h3] using h2
        rw [hr] at this
        cases this
      · rfl
  have hend : ∀ (fuel : Nat) (listed : Array Bool) (a1 : Act) (w1 : World), (∃ s, (List.range ops.size).filter (fun i => !listed.getD i true) = s ∧ s.length = fuel) → RunInv md n ops C a0 S listed a1 w1 → Fresh ops F listed a1 w1 → (∀ i, i < n → listed.getD i true = true) → wpAny P md ops Q' fuel listed a1 w1 := by
    intro fuel listed a1 w1 hcnt hI hJ hall
    have hsz := path_sizes hS0 hn hst n (Nat.le_refl _)
    refine hfin fuel listed a1 w1 hcnt hI.lsize hall hI.tail ⟨hI.world, hI.defers.trans hsz.2.symm, hI.size.trans hsz.1.symm, fun t => ?_⟩ hJ
    by_cases hw : ∃ (j : Nat) (oj : Oper), j < n ∧ ops[j]? = some oj ∧ oj.dst = some t
    · obtain ⟨j, oj, hjn, hj, hd⟩ := hw
      have hjl := (Array.getElem?_eq_some_iff.1 hj).1
      have hl : listed.getD j false = true := by
        have h1 := hall j hjn
        have h2 : j < listed.size := by rw [hI.lsize]; exact hjl
        simpa [h2] using h1
      have h1 := hI.done j oj t hj hl hd
      have h2 := path_other hS0 hn hst hin (t := t) (a1.tmps.getD t undef) w1 (j + 1) (n - (j + 1)) (by omega) (fun i oi h1 h2 hi hdi => by
        have := hone i j oi oj t hi hj hdi hd; omega)
      rw [show j + 1 + (n - (j + 1)) = n by omega] at h2
      exact h2.2 h1
    · have h1 := hI.rest t (fun j oj hj hl hd => by
        by_cases hjn : j < n
        · exact hw ⟨j, oj, hjn, hj, hd⟩
        · have hjl := (Array.getElem?_eq_some_iff.1 hj).1
          have := hI.tail j (by omega) hjl
          have h2 : j < listed.size := by rw [hI.lsize]; exact hjl
          simp [h2] at this hl
          rw [this] at hl; cases hl)
      have h2 := path_other hS0 hn hst hin (t := t) (a1.tmps.getD t undef) w1 0 n (by omega) (fun j oj _ h2 hj hd => hw ⟨j, oj, by omega, hj, hd⟩)
      rw [Nat.zero_add] at h2
      exact h2.2 ((slot0 hS0 t _ w1).2 h1)
  intro fuel
  induction fuel with
  | zero =>
    rintro listed a1 w1 ⟨s, hs, hlen⟩ hI hJ
    refine hend 0 listed a1 w1 ⟨s, hs, hlen⟩ hI hJ (fun i hi => ?_)
    have hnil : s = [] := List.eq_nil_of_length_eq_zero hlen
    subst hnil
    have := List.filter_eq_nil_iff.1 hs i (List.mem_range.2 (by omega))
    simpa using this
  | succ fuel ih =>
    rintro listed a1 w1 ⟨s, hs, hlen⟩ hI hJ
    by_cases hdone : ∀ i, i < n → listed.getD i true = true
    · exact hend (fuel + 1) listed a1 w1 ⟨s, hs, hlen⟩ hI hJ hdone
    refine ⟨fun h0 => absurd (fun i hi => hready listed hI.lsize h0 i (by omega)) hdone, fun i hi => ?_⟩
    obtain ⟨hun, oi, hoi, hall⟩ := mem_ready.1 hi
    have hin' : i < n := by
      rcases Nat.lt_or_ge i n with h | h
      · exact h
      · exfalso
        refine hdone (fun j hj => ?_)
        have h2 : j < listed.size := by rw [hI.lsize]; omega
        have h1 := (hwait i oi h hoi j hj).listed hI.closed hall
        simpa [h2] using h1
    have hil := (Array.getElem?_eq_some_iff.1 hoi).1
    have hill : i < listed.size := by rw [hI.lsize]; exact hil
    have hunf : listed.getD i false = false := by simpa [hill] using hun
    have hcount : ∃ s', (List.range ops.size).filter (fun j => !(listed.setIfInBounds i true).getD j true) = s' ∧ s'.length = fuel := by
      refine ⟨_, rfl, ?_⟩
      have hn : (List.range ops.size).Nodup := List.nodup_range
      have e : (List.range ops.size).filter (fun j => !(listed.setIfInBounds i true).getD j true) = ((List.range ops.size).filter fun j => !listed.getD j true).erase i := by
        rw [List.Nodup.erase_eq_filter (List.Pairwise.filter _ hn), List.filter_filter]
        apply List.filter_congr
        intro j hj
        by_cases hji : j = i
        · subst hji; simp [hill]
        · rw [getD_set_ne true (Ne.symm hji)]; simp [hji]
      rw [e, List.length_erase_of_mem (List.mem_filter.2 ⟨List.mem_range.2 hil, by simp only [hun]; rfl⟩), hs, hlen]
      rfl
    -- what the operation looks at is as the walk had it
    have hlook : ∀ t ∈ oi.looksAt ops, slotIs (S i).1 (S i).2 t (a1.tmps.getD t undef) w1 := by
      intro t ht
      have hback : (∀ (j : Nat) (oj : Oper), ops[j]? = some oj → oj.dst = some t → i ≤ j) → (∀ (j : Nat) (oj : Oper), ops[j]? = some oj → oj.dst = some t → listed.getD j false = false) → slotIs (S i).1 (S i).2 t (a1.tmps.getD t undef) w1 := by
        intro h1 h2
        have h3 := path_other hS0 hn hst hin (t := t) (a1.tmps.getD t undef) w1 0 i (by omega) (fun j oj _ hj ho hd => by have := h1 j oj ho hd; omega)
        rw [Nat.zero_add] at h3
        refine h3.2 ((slot0 hS0 t _ w1).2 (hI.rest t (fun j oj hj hl hd => ?_)))
        rw [h2 j oj hj hd] at hl; cases hl
      by_cases hw : ∃ (j : Nat) (oj : Oper), ops[j]? = some oj ∧ oj.dst = some t
      · obtain ⟨j, oj, hj, hd⟩ := hw
        have huniq : ∀ (j' : Nat) (oj' : Oper), ops[j']? = some oj' → oj'.dst = some t → j' = j := fun j' oj' h1 h2 => hone j' j oj' oj t h1 hj h2 hd
        rcases Nat.lt_trichotomy j i with hji | hji | hji
        · rcases (hlex j oj hj).2 i oi hji hoi with ⟨e, he, hb, heq⟩ | hap
          · have hl : listed.getD j false = true := by rw [← heq]; exact hall e he hb
            have h1 := hI.done j oj t hj hl hd
            have h2 := path_other hS0 hn hst hin (t := t) (a1.tmps.getD t undef) w1 (j + 1) (i - (j + 1)) (by omega) (fun j' oj' h1 _ h3 h4 => by have := huniq j' oj' h3 h4; omega)
            rw [show j + 1 + (i - (j + 1)) = i by omega] at h2
            exact h2.2 h1
          · exact absurd ht ((Oper.apart_spec hap).1 t hd)
        · subst hji
          refine hback (fun j' oj' h1 h2 => by have := huniq j' oj' h1 h2; omega) (fun j' oj' h1 h2 => by rw [huniq j' oj' h1 h2]; exact hunf)
        · rcases (hlex i oi hoi).2 j oj hji hj with ⟨e, he, hb, heq⟩ | hap
          · refine hback (fun j' oj' h1 h2 => by have := huniq j' oj' h1 h2; omega) (fun j' oj' h1 h2 => ?_)
            rw [huniq j' oj' h1 h2]
            rcases hlj : listed.getD j false with _ | _
            · rfl
            · have := hI.closed j oj hj hlj e he hb
              rw [heq, hunf] at this; cases this
          · exact absurd ht ((Oper.apart_spec hap).2.2 t hd)
      · exact hback (fun j oj h1 h2 => absurd ⟨j, oj, h1, h2⟩ hw) (fun j oj h1 h2 => absurd ⟨j, oj, h1, h2⟩ hw)
    have hsz := path_sizes hS0 hn hst i (by omega)
    have hsame : a1.tmps.size = (S i).2.tmps.size := hI.size.trans hsz.1.symm
    -- behind it
    have hnext : ∀ (v : Value) (w' : World), (∀ d, oi.dst = some d → slotIs (S (i + 1)).1 (S (i + 1)).2 d v w') → Below w1.heap.size w1 w' → RunInv md n ops C a0 S (listed.setIfInBounds i true) (a1.put oi.dst v) w' := by
      intro v w' hv hb
      have hget : ∀ t, oi.dst ≠ some t → (a1.put oi.dst v).tmps.getD t undef = a1.tmps.getD t undef := by
        intro t ht
        cases hd : oi.dst with
        | none => rfl
        | some d => rw [put_getD a1 d t v (by rw [hI.size]; exact hin i oi d hoi hd), if_neg (fun e => ht (by rw [hd, e]))]
      have hlist : ∀ j, (listed.setIfInBounds i true).getD j false = true → j = i ∨ listed.getD j false = true := by
        intro j hj
        by_cases hji : j = i
        · exact .inl hji
        · rw [getD_set_ne false (Ne.symm hji)] at hj; exact .inr hj
      refine ⟨hC _ _ hI.world hb, (put_defers _ _ _).trans hI.defers, (put_size _ _ _).trans hI.size, by simpa using hI.lsize, fun j oj hj hl e he hbd => ?_, fun j hnj hjl => ?_, fun j oj d hj hl hd => ?_, fun t ht => ?_⟩
      · rcases hlist j hl with rfl | hl
        · obtain rfl : oj = oi := by rw [hoi] at hj; simpa using hj.symm
          exact getD_set_true (hall e he hbd)
        · exact getD_set_true (hI.closed j oj hj hl e he hbd)
      · rw [getD_set_ne true (by omega)]; exact hI.tail _ hnj hjl
      · rcases hlist j hl with rfl | hl
        · obtain rfl : oj = oi := by rw [hoi] at hj; simpa using hj.symm
          rw [hd, put_getD a1 d d v (by rw [hI.size]; exact hin j oj d hj hd), if_pos rfl]
          exact hv d hd
        · have hne : oi.dst ≠ some d := by
            intro h
            have := hone i j oi oj d hoi hj h hd
            subst this
            rw [hunf] at hl; cases hl
          rw [hget d hne]
          exact (hI.done j oj d hj hl hd).keep hb
      · have hne : oi.dst ≠ some t := ht i oi hoi (by simp [hill])
        rw [hget t hne]
        exact hI.rest t (fun j oj hj hl => ht j oj hj (getD_set_true hl))
    have hlistF : ∀ j, (listed.setIfInBounds i true).getD j false = true → j = i ∨ listed.getD j false = true := by
      intro j hj
      by_cases hji : j = i
      · exact .inl hji
      · rw [getD_set_ne false (Ne.symm hji)] at hj; exact .inr hj
    have hfresh : ∀ (v : Value) (w' : World), (∀ d, oi.dst = some d → d ∈ F → v = .pointer (some ⟨w1.heap.size, 0, none⟩) ∧ w1.heap.size < w'.heap.size) → Below w1.heap.size w1 w' → Fresh ops F (listed.setIfInBounds i true) (a1.put oi.dst v) w' := by
      intro v w' hv hb
      have hget : ∀ t, oi.dst ≠ some t → (a1.put oi.dst v).tmps.getD t undef = a1.tmps.getD t undef := by
        intro t ht
        cases hd : oi.dst with
        | none => rfl
        | some d => rw [put_getD a1 d t v (by rw [hI.size]; exact hin i oi d hoi hd), if_neg (fun e => ht (by rw [hd, e]))]
      have hself : ∀ d, oi.dst = some d → (a1.put oi.dst v).tmps.getD d undef = v := by
        intro d hd
        rw [hd, put_getD a1 d d v (by rw [hI.size]; exact hin i oi d hoi hd), if_pos rfl]
      have hother : ∀ (j : Nat) (oj : Oper) (d : Tmp), ops[j]? = some oj → oj.dst = some d → j ≠ i → oi.dst ≠ some d := fun j oj d hj hd hji h => hji (hone j i oj oi d hj hoi hd h)
      refine ⟨fun j oj d hj hl hd hdF => ?_, fun j k oj ok d d' hj hk hlj hlk hd hd' hdF hdF' hne => ?_⟩
      · by_cases hji : j = i
        · subst hji
          obtain rfl : oj = oi := by rw [hoi] at hj; simpa using hj.symm
          obtain ⟨h1, h2⟩ := hv d hd hdF
          exact ⟨_, (hself d hd).trans h1, h2⟩
        · obtain ⟨bk, h1, h2⟩ := hJ.1 j oj d hj ((hlistF j hl).resolve_left hji) hd hdF
          exact ⟨bk, (hget d (hother j oj d hj hd hji)).trans h1, Nat.lt_of_lt_of_le h2 hb.size⟩
      · by_cases hji : j = i
        · subst hji
          obtain rfl : oj = oi := by rw [hoi] at hj; simpa using hj.symm
          have hki : k ≠ j := fun e => by
            subst e
            obtain rfl : ok = oj := by rw [hoi] at hk; simpa using hk.symm
            rw [hd] at hd'
            exact hne (by simpa using hd')
          obtain ⟨bk, h1, h2⟩ := hJ.1 k ok d' hk ((hlistF k hlk).resolve_left hki) hd' hdF'
          rw [hself d hd, hget d' (hother k ok d' hk hd' hki), h1, (hv d hd hdF).1]
          intro e
          simp at e
        · by_cases hki : k = i
          · subst hki
            obtain rfl : ok = oi := by rw [hoi] at hk; simpa using hk.symm
            obtain ⟨bk, h1, h2⟩ := hJ.1 j oj d hj ((hlistF j hlj).resolve_left hji) hd hdF
            rw [hself d' hd', hget d (hother j oj d hj hd hji), h1, (hv d' hd' hdF').1]
            intro e
            simp at e
          · rw [hget d (hother j oj d hj hd hji), hget d' (hother k ok d' hk hd' hki)]
            exact hJ.2 j k oj ok d d' hj hk ((hlistF j hlj).resolve_left hji) ((hlistF k hlk).resolve_left hki) hd hd' hdF hdF' hne
    have hkey : ∀ d, oi.dst = some d → (S i).1.lookup d = none := fun d hd => path_keys hS0 hn hst i (by omega) (fun j oj h1 h2 h3 => by have := hone j i oj oi d h2 hoi h3 hd; omega)
    have hstep := hst i oi hin' hoi
    unfold wpOp
    simp only [hoi]
    generalize hSi : S i = si at *
    generalize hSj : S (i + 1) = sj at *
    obtain ⟨Ii, ai⟩ := si
    obtain ⟨Ij, aj⟩ := sj
    simp only at hstep hlook hnext hsame hkey
    cases hstep with
    | skip hg hw =>
      rw [wanted_looks hg hsame hlook, hw]
      simp only [Bool.false_eq_true, if_false]
      refine ih _ _ _ hcount (hnext undef w1 (fun d hd => ?_) (Below.refl _ _)) (hfresh undef w1 (fun d hd hdF => ?_) (Below.refl _ _))
      · unfold slotIs
        rw [hkey d hd, hd]
        simp only
        rw [put_getD ai d d undef (by rw [← hsame, hI.size]; exact hin i oi d hoi hd), if_pos rfl]
      · have h1 := (hF i oi d hoi hd hdF).1
        unfold Region.wanted at hw
        rw [h1] at hw
        cases hw
    | val v hg hw h =>
      rw [wanted_looks hg hsame hlook, hw]
      simp only [if_true]
      refine .inl (with_fresh hI.size hin hoi hF (h a1 w1 hI.world hlook) (fun u w' hu hb hv => ih _ _ _ hcount (hnext u w' (fun d hd => ?_) hb) (hfresh u w' hv hb)))
      unfold slotIs
      rw [hkey d hd, hd]
      simp only
      rw [put_getD ai d d v (by rw [← hsame, hI.size]; exact hin i oi d hoi hd), if_pos rfl]
      exact hu
    | ty d R hd hg hw h =>
      rw [wanted_looks hg hsame hlook, hw]
      simp only [if_true]
      refine .inl (with_fresh hI.size hin hoi hF (h a1 w1 hI.world hlook) (fun u w' hu hb hv => ih _ _ _ hcount (hnext u w' (fun d' hd' => ?_) hb) (hfresh u w' hv hb)))
      obtain rfl : d = d' := by rw [hd] at hd'; simpa using hd'
      unfold slotIs
      rw [List.lookup_cons]
      simp only [BEq.rfl]
      exact hu

theorem rep_no (m j : Nat) (hl : (Array.replicate m false).getD j false = true) : False := by
  by_cases hi : j < m <;> simp [hi] at hl

/-- operations in one forced order, one behind the other -/
theorem tail_any {md : Region.Mode} {Q : Exit → Act → World → Prop} {l : List Oper} {n : Nat} (hlt : ∀ (i : Nat) (oi : Oper), l.toArray[i]? = some oi → ∀ e ∈ oi.after, Region.binds md e = true → e.on < i)
    (hch : ∀ (m i : Nat) (oi : Oper), n ≤ m → m < i → l.toArray[i]? = some oi → ∃ e ∈ oi.after, Region.binds md e = true ∧ e.on = m) :
    ∀ (r m : Nat) (listed : Array Bool) (a1 : Act) (w1 : World), m + r = l.length → n ≤ m → listed.size = l.toArray.size → (∀ i, i < m → listed.getD i true = true) → (∀ j, m ≤ j → j < l.toArray.size → listed.getD j true = false) →
      wpList P l.toArray Q (l.drop m) a1 w1 → wpAny P md l.toArray Q r listed a1 w1
  | 0, m, listed, a1, w1, hm, hnm, hls, hall, htail, hq => by
    have hnr : Region.ready md l.toArray listed = [] := by
      apply List.eq_nil_iff_forall_not_mem.2
      intro i hi
      obtain ⟨h0, o, ho, _⟩ := mem_ready.1 hi
      have h1 := (Array.getElem?_eq_some_iff.1 ho).1
      have := hall i (by simp at h1; omega)
      rw [this] at h0; cases h0
    rw [List.drop_eq_nil_of_le (by omega)] at hq
    exact wpAny_done hnr hq 0
  | r + 1, m, listed, a1, w1, hm, hnm, hls, hall, htail, hq => by
    have hml : m < l.length := by omega
    obtain ⟨o, ho⟩ : ∃ o, l[m]? = some o := ⟨l[m], by simp [hml]⟩
    have hon : l.toArray[m]? = some o := by simpa using ho
    have hdrop : l.drop m = o :: l.drop (m + 1) := by
      rw [List.drop_eq_getElem_cons hml]
      rw [List.getElem?_eq_getElem hml] at ho
      rw [Option.some.inj ho]
    rw [hdrop] at hq
    have hnl : listed.getD m true = false := htail m (Nat.le_refl _) (by simpa using hml)
    refine ⟨fun h0 => ?_, fun i hi => ?_⟩
    · exfalso
      have : m ∈ Region.ready md l.toArray listed := by
        refine mem_ready.2 ⟨hnl, o, hon, fun e he hb => ?_⟩
        have h1 := hlt m o hon e he hb
        have h2 := hall e.on h1
        have h3 : e.on < listed.size := by rw [hls]; simp; omega
        simpa [h3] using h2
      rw [h0] at this; cases this
    · obtain ⟨hun, oi, hoi, hal⟩ := mem_ready.1 hi
      have hil := (Array.getElem?_eq_some_iff.1 hoi).1
      obtain rfl : i = m := by
        rcases Nat.lt_trichotomy i m with h1 | h1 | h1
        · rw [hall i h1] at hun; cases hun
        · exact h1
        · exfalso
          obtain ⟨e, he, hb, heq⟩ := hch m i oi hnm h1 hoi
          have h2 := hal e he hb
          rw [heq] at h2
          have h3 : m < listed.size := by rw [hls]; simp; omega
          simp [h3] at h2 hnl
          rw [h2] at hnl; cases hnl
      have hmono : ∀ a2 w2, wpList P l.toArray Q (l.drop (i + 1)) a2 w2 → wpAny P md l.toArray Q r (listed.setIfInBounds i true) a2 w2 := fun a2 w2 h2 =>
        tail_any hlt hch r (i + 1) _ a2 w2 (by omega) (by omega) (by simpa using hls) (fun j hj => by
          by_cases hji : j = i
          · subst hji
            have h3 : j < listed.size := by rw [hls]; exact hil
            simp [h3]
          · rw [getD_set_ne true (Ne.symm hji)]; exact hall j (by omega)) (fun j hj hjl => by
          rw [getD_set_ne true (by omega)]; exact htail j (by omega) hjl) h2
      unfold wpOp
      simp only [hon]
      unfold wpList at hq
      split
      · rename_i hw
        rw [if_pos hw] at hq
        exact hq.imp (Oper.wp_mono hmono) (fun h => h)
      · rename_i hw
        rw [if_neg hw] at hq
        exact hmono _ _ hq

/-- the operations from n on wait for all before n (some by way of others), and each for the one ahead of it -/
def reachB (l : List Oper) : Nat → Oper → Nat → Bool
  | 0, _, _ => false
  | f + 1, o, j => o.after.any fun e => Region.binds .any e && (e.on == j || match l[e.on]? with
      | some o2 => reachB l f o2 j
      | none => false)
theorem reachB_is {l : List Oper} : ∀ (f : Nat) (o : Oper) (j : Nat), reachB l f o j = true → Reach .any l.toArray o j
  | 0, _, _, h => by cases h
  | f + 1, o, j, h => by
    unfold reachB at h
    obtain ⟨e, he, hb⟩ := Array.any_eq_true'.1 h
    simp only [Bool.and_eq_true, Bool.or_eq_true, beq_iff_eq] at hb
    rcases hb.2 with h1 | h1
    · exact .one he hb.1 h1
    · split at h1
      · rename_i o2 ho2
        exact .step he hb.1 (by simpa using ho2) (reachB_is f o2 j h1)
      · cases h1
def waitsFB (l : List Oper) (n : Nat) : Bool := (List.range l.length).all fun i => decide (i < n) || match l[i]? with
  | some o => ((List.range n).all fun j => reachB l 12 o j) && (List.range i).all fun m => decide (m < n) || o.after.any fun e => Region.binds .any e && e.on == m
  | none => false

/-- THE REGION: all but the last ones by the walk, whose new blocks are apart; then the last ones -/
theorem wp_region_laxF {id : Nat} {Q : Exit → Act → World → Prop} {a : Act} {w : World} {l : List Oper} (n : Nat) (hn : n ≤ l.length) (F : List Tmp) (ob : Obj)
    (hF : ∀ (i : Nat) (oi : Oper) (d : Tmp), l[i]? = some oi → oi.dst = some d → d ∈ F → oi.guard = none ∧ ∀ a1 w K Q, oi.wp P a1 w K Q ↔ K (a1.put (some d) (.pointer (some ⟨w.heap.size, 0, none⟩))) (w.alloc ob))
    (hFn : ∀ (i : Nat) (oi : Oper) (d : Tmp), l[i]? = some oi → oi.dst = some d → d ∈ F → i < n) (hFa : ∀ d ∈ F, ∃ (i : Nat) (oi : Oper), l[i]? = some oi ∧ oi.dst = some d)
    (hm : P.follows .mixedOrders = true) (hB : Region.lexB .any l.toArray = true) (hD : dstsB l a.tmps.size = true) (hW : waitsFB l n = true)
    (h : wpT P l.toArray (Below w.heap.size w) (fun a' w' => (∀ d d', d ∈ F → d' ∈ F → d ≠ d' → a'.tmps.getD d undef ≠ a'.tmps.getD d' undef) → wpList P l.toArray Q (l.drop n) a' w') (l.take n) [] a) : (Code.region id l.toArray true).wp P Q a w := by
  obtain ⟨S, hS0, hst, hfin⟩ := wpT_path (l.take n) [] a h
  have hB' : Region.lexFrom .any l.toArray l.toArray.size 0 (Array.replicate l.toArray.size false) = true := by
    simp only [Region.lexB, Bool.and_eq_true] at hB; exact hB.2
  have hlen : (l.take n).length = n := by rw [List.length_take]; omega
  have hlex : ∀ (i : Nat) (oi : Oper), l.toArray[i]? = some oi → (∀ e ∈ oi.after, Region.binds .any e = true → e.on < i) ∧ ∀ j oj, i < j → l.toArray[j]? = some oj → (∃ e ∈ oj.after, Region.binds .any e = true ∧ e.on = i) ∨ oi.apart l.toArray oj = true :=
    fun i oi hi => lexFrom_free _ 0 _ hB' (by simp) (fun i => by by_cases hi : i < l.length <;> simp [hi]; omega) (by simp) i oi (Nat.zero_le _) hi
  have hW' : ∀ (i : Nat) (oi : Oper), n ≤ i → l[i]? = some oi → (∀ j, j < n → Reach .any l.toArray oi j) ∧ ∀ m, n ≤ m → m < i → ∃ e ∈ oi.after, Region.binds .any e = true ∧ e.on = m := by
    intro i oi hi hoi
    have hil := (List.getElem?_eq_some_iff.1 hoi).1
    unfold waitsFB at hW
    have h1 := List.all_eq_true.1 hW i (List.mem_range.2 hil)
    rw [hoi] at h1
    simp only [Bool.or_eq_true, decide_eq_true_eq, Bool.and_eq_true] at h1
    rcases h1 with h1 | ⟨h1, h2⟩
    · omega
    refine ⟨fun j hj => reachB_is _ _ _ (List.all_eq_true.1 h1 j (List.mem_range.2 hj)), fun m hm1 hm2 => ?_⟩
    · have := List.all_eq_true.1 h2 m (List.mem_range.2 hm2)
      simp only [Bool.or_eq_true, decide_eq_true_eq] at this
      rcases this with h3 | h3
      · omega
      obtain ⟨e, he, hb⟩ := Array.any_eq_true'.1 h3
      simp only [Bool.and_eq_true, beq_iff_eq] at hb
      exact ⟨e, he, hb.1, hb.2⟩
  refine wp_region_any hm ?_
  refine wpAny_laxF (P := P) (ops := l.toArray) (C := Below w.heap.size w) (md := .any) (a0 := a) (S := S) (fun w1 w2 h1 h2 => h1.trans (h2.mono h1.size)) hS0 (n := n) (by simpa using hn) (fun k o' hk ho' => hst k o' (by rw [List.getElem?_take_of_lt hk]; simpa using ho'))
    (fun k o d hk hd => dsts_lt hD (k := k) (by simpa using hk) hd) (fun j k x y d hj hk hx hy => dsts_one hD (j := j) (k := k) (by simpa using hj) (by simpa using hk) hx hy)
    hlex F ob (fun i oi d hi => hF i oi d (by simpa using hi)) (fun i oi hi hoi j hj => ?_)
    (fun fuel listed a1 w1 ⟨s, hs, hcnt⟩ hls hall htail hr hfr => ?_) _ _ _ _ ⟨_, rfl, ?_⟩ (start_inv ⟨rfl, rfl, rfl, Nat.le_refl _, fun _ _ => rfl⟩) ⟨fun j oj d hj hl => ?_, fun j k oj ok d d' hj hk hl => ?_⟩
  · exact (hW' i oi hi (by simpa using hoi)).1 j hj
  · have hq := hfin a1 w1 (by rw [hlen]; exact hr) (fun d d' hd hd' hne => by
      obtain ⟨i, oi, hoi, hdi⟩ := hFa d hd
      obtain ⟨k, ok, hok, hdk⟩ := hFa d' hd'
      have g : ∀ (i : Nat) (oi : Oper) (d : Tmp), l[i]? = some oi → oi.dst = some d → d ∈ F → listed.getD i false = true := by
        intro i oi d h1 h2 h3
        have h4 := hall i (hFn i oi d h1 h2 h3)
        have h5 : i < listed.size := by rw [hls]; simpa using (List.getElem?_eq_some_iff.1 h1).1
        simpa [h5] using h4
      exact hfr.2 i k oi ok d d' (by simpa using hoi) (by simpa using hok) (g i oi d hoi hdi hd) (g k ok d' hok hdk hd') hdi hdk hd hd' hne)
    have hfuel : fuel = l.length - n := by
      rw [← hcnt, ← hs]
      have : (List.range l.toArray.size).filter (fun i => !listed.getD i true) = (List.range (l.length - n)).map (n + ·) := by
        have e : l.toArray.size = n + (l.length - n) := by simp; omega
        rw [e, List.range_add, List.filter_append]
        have h1 : (List.range n).filter (fun i => !listed.getD i true) = [] := by
          apply List.filter_eq_nil_iff.2
          intro i hi
          rw [hall i (List.mem_range.1 hi)]
          simp
        have h2 : ((List.range (l.length - n)).map (n + ·)).filter (fun i => !listed.getD i true) = (List.range (l.length - n)).map (n + ·) := by
          apply List.filter_eq_self.2
          intro i hi
          obtain ⟨k, hk, rfl⟩ := List.mem_map.1 hi
          have := List.mem_range.1 hk
          rw [htail (n + k) (by omega) (by omega)]
          rfl
        rw [h1, h2, List.nil_append]
      rw [this]; simp
    rw [hfuel]
    exact tail_any (n := n) (fun i oi hi => (hlex i oi hi).1) (fun m i oi h1 h2 hoi => (hW' i oi (by omega) (by simpa using hoi)).2 m h1 h2) _ n listed a1 w1 (by omega) (Nat.le_refl _) hls hall htail hq
  · rw [count_none]; simp
  · exact (rep_no _ _ hl).elim
  · exact (rep_no _ _ hl).elim

/-- no new blocks: the last operations wait for all others, some by way of another; at the end 'intro _' -/
theorem wp_laxW_list {id : Nat} {Q : Exit → Act → World → Prop} {w : World} {l : List Oper} {fs : List Value} {ds : List Deferred} (n : Nat) (hn : decide (n ≤ l.length) = true)
    (hm : P.follows .mixedOrders = true) (hB : Region.lexB .any l.toArray = true) (hD : dstsB l fs.length = true) (hW : waitsFB l n = true)
    (h : wpL P l.toArray (Below w.heap.size w) (fun a' w' => (∀ d d', d ∈ ([] : List Tmp) → d' ∈ ([] : List Tmp) → d ≠ d' → a'.tmps.getD d undef ≠ a'.tmps.getD d' undef) → wpList P l.toArray Q (l.drop n) a' w') ds (l.take n) [] fs) : (Code.region id l.toArray true).wp P Q ⟨fs.toArray, ds⟩ w :=
  wp_region_laxF n (of_decide_eq_true hn) [] (.cells #[] 0) (fun _ _ _ _ _ h => by cases h) (fun _ _ _ _ _ h => by cases h) (fun _ h => by cases h) hm hB (by simpa using hD) hW h
end
end Go.Own

end
section
namespace Go.Proofs.Ytepbdjgfaljbgaa
open Go.RowKit Go.Own
namespace Tab
open Go.TabM
abbrev ptr (p : Nat) : Value := .pointer (some ⟨p, 0, none⟩)
section
variable {B : Nat} {w0 w : World} {Ps : List Asn} {q : Nat} {v : Value} {t : T}
end
section
variable {B : Nat} {w0 w : World} {Ps : List Asn} {q : Nat} {v : Value} {t : T} {N : Nat}
end
end Tab
end Go.Proofs.Ytepbdjgfaljbgaa

end
section
namespace Go.Own
open Go.RowKit
/-- two results, the first a variable of many cells -/
theorem results_cell_two {P : Program} {fn : Func} {p q : Tmp} {ty : TypeId} (h : fn.results = #[.cell p ty, .tmp q]) (tmps : Array Value) (w : World) (g : Nat) (t : TypeId) (cs : Array Value) (fr : Nat × Nat) (d : TypeDesc) (v : Value)
    (hp : tmps.getD p undef = .pointer (some ⟨g, 0, none⟩)) (hq : tmps.getD q undef = v) (hg : w.heap[g]? = some (.cells cs t fr))
    (hu : P.underlying ty = some d) (hd : (match d with | .struct _ | .array _ _ => true | _ => false) = true) (hi : (P.info? ty).map (·.size) = some cs.size) :
    (results fn tmps).run P w = .ok (.tuple #[.agg cs, v]) w := by
  have hp' : tmps[p]?.getD undef = .pointer (some ⟨g, 0, none⟩) := by simpa using hp
  have hq' : tmps[q]?.getD undef = v := by simpa using hq
  simp [results, h, hp', hq', asAddr, run_loadVar_row w g t ty cs fr d hg hu hd hi]
end Go.Own

end
section
namespace Go.Proofs.Ytepbdjgfaljbgaa
open Go.RowKit Go.Own

namespace Cod

/-- the many lowest bytes of n, the least significant one first -/
def le (n : Nat) : Nat → List UInt8
  | 0 => []
  | k + 1 => le n k ++ [UInt8.ofNat (n / 2 ^ (8 * k))]
/-- a writer as plain data: its room, what was written, its first error -/
structure WS where
  room : Int
  xs : List UInt8
  err : Int

end Cod
end Go.Proofs.Ytepbdjgfaljbgaa

end
section
namespace Go.Proofs.Ytepbdjgfaljbgaa
open Go.RowKit Go.Own
namespace Cod

/-- a reader as plain data: the bytes that are left, its first error -/
structure RS where
  l : List UInt8
  err : Int

theorem View.take {w : World} {D : Nat → Prop} {ao : Option Addr} {l : List UInt8} (h : View w D ao l) (n : Nat) : View w D ao (l.take n) := by
  rcases h with rfl | ⟨b, o, e, hS, hb, hc⟩
  · exact .inl (by simp)
  · refine .inr ⟨b, o, e, hS, hb, fun j hj => ?_⟩
    rw [List.length_take] at hj
    rw [hc j (by omega)]
    simp [List.getD, show j < n by omega]

theorem View.drop {w : World} {D : Nat → Prop} {b o : Nat} {l : List UInt8} (h : View w D (some ⟨b, o, none⟩) l) (n : Nat) : View w D (some ⟨b, o + n, none⟩) (l.drop n) := by
  rcases h with rfl | ⟨b', o', e, hS, hb, hc⟩
  · exact .inl (by simp)
  · cases e
    refine .inr ⟨b, o + n, rfl, hS, hb, fun j hj => ?_⟩
    rw [List.length_drop] at hj
    have := hc (n + j) (by omega)
    rw [Nat.add_assoc, this]
    simp [List.getD]

end Cod
end Go.Proofs.Ytepbdjgfaljbgaa

end
section
namespace Go.Proofs.Ytepbdjgfaljbgaa
open Go.RowKit Go.Own
namespace Cod

/-- a slice of bytes of one's own -/
def AB (ao : Option Addr) (n cap : Nat) (l : List UInt8) : Asn := ARow 5 1 (.slice ao n cap) n (l.map byteV)

theorem AB.view {w : World} {S : Nat → Prop} {ao : Option Addr} {n cap : Nat} {l : List UInt8} (h : (AB ao n cap l).holds S w) : View w S ao l := Row.view h
theorem AB.len {w : World} {S : Nat → Prop} {ao : Option Addr} {n cap : Nat} {l : List UInt8} (h : (AB ao n cap l).holds S w) : l.length = n ∧ n ≤ cap ∧ cap ≤ maxLen := by
  obtain ⟨ao', cap', hv, h1, h2, _⟩ := Row.form h
  simp only [Value.slice.injEq, true_and] at hv
  obtain ⟨rfl, rfl⟩ := hv
  exact ⟨by have := h.own.1; simpa using this, h1, h2⟩

section
variable {B : Nat} {w0 w : World} {Ps : List Asn} {p : Nat} {s : WS} {r : RS}

end

end Cod
end Go.Proofs.Ytepbdjgfaljbgaa

end
section
namespace Go.Own
open Go.RowKit
/-- a slice that reads as these cells -/
def RdRow (w : World) (v : Value) (n : Nat) (xs : List Value) : Prop := ∃ ao cap, v = .slice ao n cap ∧ (n = 0 ∨ ∃ g, ao = some ⟨g, 0, none⟩ ∧ ∀ j u, xs[j]? = some u → w.cell? ⟨g, j, none⟩ = some u)
theorem cellLater' {W w : World} {a : Addr} {v : Value} (h : W.cell? a = some v) (hb : Below W.heap.size W w) : w.cell? a = some v := by
  have hlt : a.block < W.heap.size := by
    unfold World.cell? at h
    rcases Nat.lt_or_ge a.block W.heap.size with h1 | h1
    · exact h1
    · rw [Array.getElem?_eq_none h1] at h; simp at h
  unfold World.cell? at h ⊢
  rw [hb.block a.block hlt]
  exact h
theorem RdRow.later {W w : World} {v : Value} {n : Nat} {xs : List Value} (h : RdRow W v n xs) (hb : Below W.heap.size W w) : RdRow w v n xs := by
  obtain ⟨ao, cap, rfl, h⟩ := h
  refine ⟨ao, cap, rfl, ?_⟩
  rcases h with h | ⟨g, e, h⟩
  · exact .inl h
  · exact .inr ⟨g, e, fun j u hu => cellLater' (h j u hu) hb⟩
end Go.Own
namespace Go.Proofs.Ytepbdjgfaljbgaa
open Go.RowKit Go.Own
namespace Tab
open Go.TabM
end Tab
end Go.Proofs.Ytepbdjgfaljbgaa

end
section
namespace Go.Own
open Go.RowKit
/-- a slice that reads as these cells, wherever it begins -/
def RdWin (w : World) (v : Value) (n : Nat) (xs : List Value) : Prop := ∃ ao cap, v = .slice ao n cap ∧ (n = 0 ∨ ∃ g o, ao = some ⟨g, o, none⟩ ∧ ∀ j u, xs[j]? = some u → w.cell? ⟨g, o + j, none⟩ = some u)
theorem RdWin.later {W w : World} {v : Value} {n : Nat} {xs : List Value} (h : RdWin W v n xs) (hb : Below W.heap.size W w) : RdWin w v n xs := by
  obtain ⟨ao, cap, e, h⟩ := h
  refine ⟨ao, cap, e, ?_⟩
  rcases h with h | ⟨g, o, e2, hc⟩
  · exact .inl h
  · exact .inr ⟨g, o, e2, fun j u hu => cellLater' (hc j u hu) hb⟩
end Go.Own

end
section
namespace Go.Own
open Go.RowKit

def updL (L : Nat → Bool) (i : Nat) : Nat → Bool := fun j => if j = i then true else L j
section
variable {P : Program} {ops : Array Oper} {md : Region.Mode} {CL : (Nat → Bool) → World → Prop}
/-- what may be taken for granted when operation i comes up -/
structure Comes (ops : Array Oper) (md : Region.Mode) (i : Nat) (o : Oper) (L : Nat → Bool) : Prop where
  not : L i = false
  closed : ∀ (j : Nat) (oj : Oper), ops[j]? = some oj → L j = true → ∀ e ∈ oj.after, Region.binds md e = true → L e.on = true
  ready : ∀ e ∈ o.after, Region.binds md e = true → L e.on = true
inductive StepG (P : Program) (ops : Array Oper) (md : Region.Mode) (CL : (Nat → Bool) → World → Prop) (i : Nat) (o : Oper) (a : Act) : Act → Prop
  | skip (hw : Region.wanted o (yielded ops a.tmps) = false) (hq : ∀ L w, CL L w → Comes ops md i o L → CL (updL L i) w) : StepG P ops md CL i o a (a.put o.dst undef)
  | val (v : Value) (hw : Region.wanted o (yielded ops a.tmps) = true)
      (h : ∀ L a1 w, CL L w → Comes ops md i o L → (∀ t ∈ o.looksAt ops, a1.tmps.getD t undef = a.tmps.getD t undef) → ∀ (K : Act → World → Prop) (Q : Exit → Act → World → Prop), (∀ w', CL (updL L i) w' → K (a1.put o.dst v) w') → o.wp P a1 w K Q) : StepG P ops md CL i o a (a.put o.dst v)

structure InvG (md : Region.Mode) (ops : Array Oper) (CL : (Nat → Bool) → World → Prop) (a0 : Act) (S : Nat → Act) (listed : Array Bool) (a1 : Act) (w1 : World) : Prop where
  world : CL (fun j => listed.getD j false) w1
  defers : a1.defers = a0.defers
  size : a1.tmps.size = a0.tmps.size
  lsize : listed.size = ops.size
  closed : ∀ (j : Nat) (oj : Oper), ops[j]? = some oj → listed.getD j false = true → ∀ e ∈ oj.after, Region.binds md e = true → listed.getD e.on false = true
  done : ∀ (j : Nat) (oj : Oper) (d : Tmp), ops[j]? = some oj → listed.getD j false = true → oj.dst = some d → a1.tmps.getD d undef = (S (j + 1)).tmps.getD d undef
  rest : ∀ t, (∀ (j : Nat) (oj : Oper), ops[j]? = some oj → listed.getD j false = true → oj.dst ≠ some t) → a1.tmps.getD t undef = a0.tmps.getD t undef

theorem StepG.put {i : Nat} {o : Oper} {a a' : Act} (h : StepG P ops md CL i o a a') : ∃ v, a' = a.put o.dst v := by
  cases h with
  | skip => exact ⟨_, rfl⟩
  | val v => exact ⟨v, rfl⟩
theorem sizesG {a0 : Act} {S : Nat → Act} (hS0 : S 0 = a0) (hst : ∀ (k : Nat) (o : Oper), ops[k]? = some o → StepG P ops md CL k o (S k) (S (k + 1))) :
    ∀ k, k ≤ ops.size → (S k).tmps.size = a0.tmps.size ∧ (S k).defers = a0.defers
  | 0, _ => by rw [hS0]; exact ⟨rfl, rfl⟩
  | k + 1, hk => by
    have h := sizesG hS0 hst k (by omega)
    obtain ⟨v, g⟩ := (hst k ops[k] (Array.getElem?_eq_getElem (by omega))).put
    rw [g]
    exact ⟨(put_size _ _ _).trans h.1, (put_defers _ _ _).trans h.2⟩
theorem otherG {a0 : Act} {S : Nat → Act} (hS0 : S 0 = a0) (hst : ∀ (k : Nat) (o : Oper), ops[k]? = some o → StepG P ops md CL k o (S k) (S (k + 1)))
    (hin : ∀ (k : Nat) (o : Oper) (d : Tmp), ops[k]? = some o → o.dst = some d → d < a0.tmps.size) {t : Tmp} (m : Nat) :
    ∀ q, m + q ≤ ops.size → (∀ j oj, m ≤ j → j < m + q → ops[j]? = some oj → oj.dst ≠ some t) → (S (m + q)).tmps.getD t undef = (S m).tmps.getD t undef
  | 0, _, _ => rfl
  | q + 1, hq, hno => by
    have ih := otherG hS0 hst hin (t := t) m q (by omega) (fun j oj h1 h2 => hno j oj h1 (by omega))
    have hk : ops[m + q]? = some ops[m + q] := Array.getElem?_eq_getElem (by omega)
    have hs := sizesG hS0 hst (m + q) (by omega)
    obtain ⟨v, g⟩ := (hst (m + q) _ hk).put
    refine Eq.trans ?_ ih
    show (S (m + q + 1)).tmps.getD t undef = _
    rw [g]
    have hd := hno (m + q) _ (by omega) (by omega) hk
    cases hdd : (ops[m + q]).dst with
    | none => rfl
    | some d => rw [put_getD _ d t v (by rw [hs.1]; exact hin _ _ d hk hdd), if_neg (fun e => hd (by rw [hdd, e]))]

theorem wpAny_G {Q' : Exit → Act → World → Prop} {a0 : Act} {S : Nat → Act} (hS0 : S 0 = a0)
    (hst : ∀ (k : Nat) (o : Oper), ops[k]? = some o → StepG P ops md CL k o (S k) (S (k + 1)))
    (hin : ∀ (k : Nat) (o : Oper) (d : Tmp), ops[k]? = some o → o.dst = some d → d < a0.tmps.size)
    (hone : ∀ (j k : Nat) (x y : Oper) (d : Tmp), ops[j]? = some x → ops[k]? = some y → x.dst = some d → y.dst = some d → j = k)
    (hlex : ∀ (i : Nat) (oi : Oper), ops[i]? = some oi → (∀ e ∈ oi.after, Region.binds md e = true → e.on < i) ∧ ∀ j oj, i < j → ops[j]? = some oj → (∃ e ∈ oj.after, Region.binds md e = true ∧ e.on = i) ∨ oi.apart ops oj = true)
    (hfin : ∀ (a1 : Act) (w1 : World) (L : Nat → Bool), CL L w1 → (∀ i, i < ops.size → L i = true) → a1 = S ops.size → Q' .normal a1 w1) :
    ∀ (fuel : Nat) (listed : Array Bool) (a1 : Act) (w1 : World), (∃ s, (List.range ops.size).filter (fun i => !listed.getD i true) = s ∧ s.length = fuel) → InvG md ops CL a0 S listed a1 w1 → wpAny P md ops Q' fuel listed a1 w1 := by
  have hready : ∀ listed : Array Bool, listed.size = ops.size → Region.ready md ops listed = [] → ∀ i, i < ops.size → listed.getD i true = true := by
    intro listed hls hr i
    induction i using Nat.strongRecOn with
    | _ i ih =>
      intro hi
      rcases hb : listed.getD i true with _ | _
      · exfalso
        have : i ∈ Region.ready md ops listed := by
          refine mem_ready.2 ⟨hb, ops[i], Array.getElem?_eq_getElem hi, fun e he hbd => ?_⟩
          have h1 := (hlex i _ (Array.getElem?_eq_getElem hi)).1 e he hbd
          have h2 := ih e.on h1 (by omega)
          have h3 : e.on < listed.size := by omega
          simpa [h3] using h2
        rw [hr] at this
        cases this
      · rfl
  have hend : ∀ (fuel : Nat) (listed : Array Bool) (a1 : Act) (w1 : World), InvG md ops CL a0 S listed a1 w1 → (∀ i, i < ops.size → listed.getD i true = true) → wpAny P md ops Q' fuel listed a1 w1 := by
    intro fuel listed a1 w1 hI hall
    have hsz := sizesG hS0 hst ops.size (Nat.le_refl _)
    have hallf : ∀ i, i < ops.size → listed.getD i false = true := by
      intro i hi
      have h1 := hall i hi
      have h2 : i < listed.size := by rw [hI.lsize]; exact hi
      simpa [h2] using h1
    have hnr : Region.ready md ops listed = [] := by
      apply List.eq_nil_iff_forall_not_mem.2
      intro i hi
      obtain ⟨h0, o, ho, _⟩ := mem_ready.1 hi
      have := hall i (Array.getElem?_eq_some_iff.1 ho).1
      rw [this] at h0; cases h0
    refine wpAny_done hnr (hfin a1 w1 _ hI.world hallf ?_) fuel
    have hslot : ∀ t, a1.tmps.getD t undef = (S ops.size).tmps.getD t undef := by
      intro t
      by_cases hw : ∃ (j : Nat) (oj : Oper), ops[j]? = some oj ∧ oj.dst = some t
      · obtain ⟨j, oj, hj, hd⟩ := hw
        have hjl := (Array.getElem?_eq_some_iff.1 hj).1
        have h1 := hI.done j oj t hj (hallf j hjl) hd
        have h2 := otherG hS0 hst hin (t := t) (j + 1) (ops.size - (j + 1)) (by omega) (fun i oi h1 h2 hi hdi => by
          have := hone i j oi oj t hi hj hdi hd; omega)
        rw [show j + 1 + (ops.size - (j + 1)) = ops.size by omega] at h2
        exact h1.trans h2.symm
      · have h1 := hI.rest t (fun j oj hj hl hd => hw ⟨j, oj, hj, hd⟩)
        have h2 := otherG hS0 hst hin (t := t) 0 ops.size (by omega) (fun j oj _ h2 hj hd => hw ⟨j, oj, hj, hd⟩)
        rw [Nat.zero_add, hS0] at h2
        exact h1.trans h2.symm
    have hts : a1.tmps = (S ops.size).tmps := by
      apply Array.ext
      · rw [hI.size, hsz.1]
      · intro i h1 h2
        have := hslot i
        simpa [Array.getD, h1, h2] using this
    have hds : a1.defers = (S ops.size).defers := hI.defers.trans hsz.2.symm
    cases a1
    cases hS : S ops.size
    rw [hS] at hts hds
    simp only at hts hds
    subst hts hds
    rfl
  intro fuel
  induction fuel with
  | zero =>
    rintro listed a1 w1 ⟨s, hs, hlen⟩ hI
    refine hend 0 listed a1 w1 hI (fun i hi => ?_)
    have hnil : s = [] := List.eq_nil_of_length_eq_zero hlen
    subst hnil
    have := List.filter_eq_nil_iff.1 hs i (List.mem_range.2 (by omega))
    simpa using this
  | succ fuel ih =>
    rintro listed a1 w1 ⟨s, hs, hlen⟩ hI
    by_cases hdone : ∀ i, i < ops.size → listed.getD i true = true
    · exact hend (fuel + 1) listed a1 w1 hI hdone
    refine ⟨fun h0 => absurd (fun i hi => hready listed hI.lsize h0 i (by omega)) hdone, fun i hi => ?_⟩
    obtain ⟨hun, oi, hoi, hall⟩ := mem_ready.1 hi
    have hil := (Array.getElem?_eq_some_iff.1 hoi).1
    have hill : i < listed.size := by rw [hI.lsize]; exact hil
    have hunf : listed.getD i false = false := by simpa [hill] using hun
    have hcount : ∃ s', (List.range ops.size).filter (fun j => !(listed.setIfInBounds i true).getD j true) = s' ∧ s'.length = fuel := by
      refine ⟨_, rfl, ?_⟩
      have hn : (List.range ops.size).Nodup := List.nodup_range
      have e : (List.range ops.size).filter (fun j => !(listed.setIfInBounds i true).getD j true) = ((List.range ops.size).filter fun j => !listed.getD j true).erase i := by
        rw [List.Nodup.erase_eq_filter (List.Pairwise.filter _ hn), List.filter_filter]
        apply List.filter_congr
        intro j hj
        by_cases hji : j = i
        · subst hji; simp [hill]
        · rw [getD_set_ne true (Ne.symm hji)]; simp [hji]
      rw [e, List.length_erase_of_mem (List.mem_filter.2 ⟨List.mem_range.2 hil, by simp only [hun]; rfl⟩), hs, hlen]
      rfl
    have hlook : ∀ t ∈ oi.looksAt ops, a1.tmps.getD t undef = (S i).tmps.getD t undef := by
      intro t ht
      have hback : (∀ (j : Nat) (oj : Oper), ops[j]? = some oj → oj.dst = some t → i ≤ j) → (∀ (j : Nat) (oj : Oper), ops[j]? = some oj → oj.dst = some t → listed.getD j false = false) → a1.tmps.getD t undef = (S i).tmps.getD t undef := by
        intro h1 h2
        have h3 := otherG hS0 hst hin (t := t) 0 i (by omega) (fun j oj _ hj ho hd => by have := h1 j oj ho hd; omega)
        rw [Nat.zero_add, hS0] at h3
        refine Eq.trans (hI.rest t (fun j oj hj hl hd => ?_)) h3.symm
        rw [h2 j oj hj hd] at hl; cases hl
      by_cases hw : ∃ (j : Nat) (oj : Oper), ops[j]? = some oj ∧ oj.dst = some t
      · obtain ⟨j, oj, hj, hd⟩ := hw
        have huniq : ∀ (j' : Nat) (oj' : Oper), ops[j']? = some oj' → oj'.dst = some t → j' = j := fun j' oj' h1 h2 => hone j' j oj' oj t h1 hj h2 hd
        rcases Nat.lt_trichotomy j i with hji | hji | hji
        · rcases (hlex j oj hj).2 i oi hji hoi with ⟨e, he, hb, heq⟩ | hap
          · have hl : listed.getD j false = true := by rw [← heq]; exact hall e he hb
            have h1 := hI.done j oj t hj hl hd
            have h2 := otherG hS0 hst hin (t := t) (j + 1) (i - (j + 1)) (by omega) (fun j' oj' h1 _ h3 h4 => by have := huniq j' oj' h3 h4; omega)
            rw [show j + 1 + (i - (j + 1)) = i by omega] at h2
            exact h1.trans h2.symm
          · exact absurd ht ((Oper.apart_spec hap).1 t hd)
        · subst hji
          refine hback (fun j' oj' h1 h2 => by have := huniq j' oj' h1 h2; omega) (fun j' oj' h1 h2 => by rw [huniq j' oj' h1 h2]; exact hunf)
        · rcases (hlex i oi hoi).2 j oj hji hj with ⟨e, he, hb, heq⟩ | hap
          · refine hback (fun j' oj' h1 h2 => by have := huniq j' oj' h1 h2; omega) (fun j' oj' h1 h2 => ?_)
            rw [huniq j' oj' h1 h2]
            rcases hlj : listed.getD j false with _ | _
            · rfl
            · have := hI.closed j oj hj hlj e he hb
              rw [heq, hunf] at this; cases this
          · exact absurd ht ((Oper.apart_spec hap).2.2 t hd)
      · exact hback (fun j oj h1 h2 => absurd ⟨j, oj, h1, h2⟩ hw) (fun j oj h1 h2 => absurd ⟨j, oj, h1, h2⟩ hw)
    have hsz := sizesG hS0 hst i (by omega)
    have hsame : a1.tmps.size = (S i).tmps.size := hI.size.trans hsz.1.symm
    have hupd : (fun j => (listed.setIfInBounds i true).getD j false) = updL (fun j => listed.getD j false) i := by
      funext j
      unfold updL
      by_cases hji : j = i
      · subst hji; simp [hill]
      · rw [getD_set_ne false (Ne.symm hji), if_neg hji]
    have hcomes : Comes ops md i oi (fun j => listed.getD j false) := ⟨hunf, hI.closed, hall⟩
    have hnext : ∀ (v : Value) (w' : World), S (i + 1) = (S i).put oi.dst v → CL (updL (fun j => listed.getD j false) i) w' → InvG md ops CL a0 S (listed.setIfInBounds i true) (a1.put oi.dst v) w' := by
      intro v w' hv hb
      have hget : ∀ t, oi.dst ≠ some t → (a1.put oi.dst v).tmps.getD t undef = a1.tmps.getD t undef := by
        intro t ht
        cases hd : oi.dst with
        | none => rfl
        | some d => rw [put_getD a1 d t v (by rw [hI.size]; exact hin i oi d hoi hd), if_neg (fun e => ht (by rw [hd, e]))]
      have hlist : ∀ j, (listed.setIfInBounds i true).getD j false = true → j = i ∨ listed.getD j false = true := by
        intro j hj
        by_cases hji : j = i
        · exact .inl hji
        · rw [getD_set_ne false (Ne.symm hji)] at hj; exact .inr hj
      refine ⟨by rw [hupd]; exact hb, (put_defers _ _ _).trans hI.defers, (put_size _ _ _).trans hI.size, by simpa using hI.lsize, fun j oj hj hl e he hbd => ?_, fun j oj d hj hl hd => ?_, fun t ht => ?_⟩
      · rcases hlist j hl with rfl | hl
        · obtain rfl : oj = oi := by rw [hoi] at hj; simpa using hj.symm
          exact getD_set_true (hall e he hbd)
        · exact getD_set_true (hI.closed j oj hj hl e he hbd)
      · rcases hlist j hl with rfl | hl
        · obtain rfl : oj = oi := by rw [hoi] at hj; simpa using hj.symm
          rw [hv, hd, put_getD a1 d d v (by rw [hI.size]; exact hin j oj d hj hd), if_pos rfl, put_getD (S j) d d v (by rw [hsz.1]; exact hin j oj d hj hd), if_pos rfl]
        · have hne : oi.dst ≠ some d := by
            intro h
            have := hone i j oi oj d hoi hj h hd
            subst this
            rw [hunf] at hl; cases hl
          rw [hget d hne]
          exact hI.done j oj d hj hl hd
      · have hne : oi.dst ≠ some t := ht i oi hoi (by simp [hill])
        rw [hget t hne]
        exact hI.rest t (fun j oj hj hl => ht j oj hj (getD_set_true hl))
    have hwl : Region.wanted oi (yielded ops a1.tmps) = Region.wanted oi (yielded ops (S i).tmps) :=
      wanted_looks (I := []) (w := w1) (by unfold guardKnown; split; rfl; split <;> rfl) hsame (fun t ht => hlook t ht)
    have hstep := hst i oi hoi
    unfold wpOp
    simp only [hoi]
    generalize hSj : S (i + 1) = sj at *
    cases hstep with
    | skip hw hq =>
      rw [hwl, hw]
      simp only [Bool.false_eq_true, if_false]
      exact ih _ _ _ hcount (hnext undef w1 rfl (hq _ _ hI.world hcomes))
    | val v hw h =>
      rw [hwl, hw]
      simp only [if_true]
      exact .inl (h _ a1 w1 hI.world hcomes hlook _ _ (fun w' hu => ih _ _ _ hcount (hnext v w' rfl hu)))
end

/-! ### how far the chain is -/
/-- so many of the chain have been: what the world is like -/
def CLp (C : Nat → World → Prop) (E : List Nat) (L : Nat → Bool) (w : World) : Prop := C (E.filter L).length w
/-- x is y, or waits for it, some by way of others -/
def waitsGB (ops : Array Oper) : Nat → Nat → Nat → Bool
  | 0, x, y => x == y
  | f + 1, x, y => x == y || match ops[x]? with
    | some o => o.after.any fun e => Region.binds .any e && waitsGB ops f e.on y
    | none => false
theorem waitsGB_sound {ops : Array Oper} {L : Nat → Bool} (hcl : ∀ (j : Nat) (oj : Oper), ops[j]? = some oj → L j = true → ∀ e ∈ oj.after, Region.binds .any e = true → L e.on = true) :
    ∀ (f x y : Nat), waitsGB ops f x y = true → L x = true → L y = true
  | 0, x, y, h, hx => by
    have : x = y := by simpa [waitsGB] using h
    rw [← this]; exact hx
  | f + 1, x, y, h, hx => by
    unfold waitsGB at h
    rw [Bool.or_eq_true] at h
    rcases h with h | h
    · have : x = y := by simpa using h
      rw [← this]; exact hx
    · split at h
      · rename_i o ho
        obtain ⟨e, he, hb⟩ := Array.any_eq_true'.1 h
        rw [Bool.and_eq_true] at hb
        exact waitsGB_sound hcl f e.on y hb.2 (hcl x o ho hx e he hb.1)
      · cases h
/-- each of the chain waits for the one ahead of it -/
def chainB (ops : Array Oper) (E : List Nat) : Bool := decide E.Nodup && E.all (· < ops.size) && (List.range (E.length - 1)).all fun j => match ops[E.getD (j + 1) 0]? with
  | some o => o.after.any fun e => Region.binds .any e && waitsGB ops 12 e.on (E.getD j 0)
  | none => false
section
variable {P : Program} {ops : Array Oper} {C : Nat → World → Prop} {E : List Nat}
theorem chain_edge (hch : chainB ops E = true) (j : Nat) (hj : j + 1 < E.length) : ∃ o, ops[E.getD (j + 1) 0]? = some o ∧ ∃ e ∈ o.after, Region.binds .any e = true ∧ waitsGB ops 12 e.on (E.getD j 0) = true := by
  unfold chainB at hch
  simp only [Bool.and_eq_true] at hch
  have h := List.all_eq_true.1 hch.2 j (List.mem_range.2 (by omega))
  split at h
  · rename_i o ho
    obtain ⟨e, he, hb⟩ := Array.any_eq_true'.1 h
    rw [Bool.and_eq_true] at hb
    exact ⟨o, ho, e, he, hb.1, hb.2⟩
  · cases h
theorem chain_nodup (hch : chainB ops E = true) : E.Nodup := by
  unfold chainB at hch
  simp only [Bool.and_eq_true, decide_eq_true_eq] at hch
  exact hch.1.1
theorem chain_lt (hch : chainB ops E = true) : ∀ i ∈ E, i < ops.size := by
  unfold chainB at hch
  simp only [Bool.and_eq_true] at hch
  intro i hi
  simpa using List.all_eq_true.1 hch.1.2 i hi
theorem chain_down (hch : chainB ops E = true) {L : Nat → Bool} (hcl : ∀ (j : Nat) (oj : Oper), ops[j]? = some oj → L j = true → ∀ e ∈ oj.after, Region.binds .any e = true → L e.on = true) (j : Nat) :
    ∀ d, j + d < E.length → L (E.getD (j + d) 0) = true → L (E.getD j 0) = true
  | 0, _, h => h
  | d + 1, hl, h => by
    obtain ⟨o, ho, e, he, hb, heq⟩ := chain_edge hch (j + d) (by omega)
    have := waitsGB_sound hcl 12 _ _ heq (hcl _ o ho h e he hb)
    exact chain_down hch hcl j d (by omega) this
theorem filter_upd_not {L : Nat → Bool} {k : Nat} (hk : E.contains k = false) : E.filter (updL L k) = E.filter L := by
  apply List.filter_congr
  intro x hx
  unfold updL
  rw [if_neg]
  rintro rfl
  have : E.contains x = true := by simpa using hx
  rw [hk] at this
  cases this
theorem getD_of {j k : Nat} (h : E[j]? = some k) : E.getD j 0 = k := by rw [List.getD_eq_getElem?_getD, h]; rfl
theorem chain_phase (hch : chainB ops E = true) {L : Nat → Bool} {j k : Nat} {o : Oper} (hj : E[j]? = some k) (ho : ops[k]? = some o) (hc : Comes ops .any k o L) :
    (E.filter L).length = j ∧ (E.filter (updL L k)).length = j + 1 := by
  have hjl := (List.getElem?_eq_some_iff.1 hj).1
  have hk := getD_of hj
  have hbef : ∀ i, i < j → L (E.getD i 0) = true := by
    intro i hi
    obtain ⟨o', ho', e, he, hb, heq⟩ := chain_edge hch (j - 1) (by omega)
    rw [show j - 1 + 1 = j by omega, hk, ho] at ho'
    cases ho'
    have h1 := waitsGB_sound hc.closed 12 _ _ heq (hc.ready e he hb)
    have h2 := chain_down hch hc.closed i (j - 1 - i) (by omega)
    rw [show i + (j - 1 - i) = j - 1 by omega] at h2
    exact h2 h1
  have haft : ∀ i, j ≤ i → i < E.length → L (E.getD i 0) = false := by
    intro i hi hl
    rcases hb : L (E.getD i 0) with _ | _
    · rfl
    · have h2 := chain_down hch hc.closed j (i - j) (by omega)
      rw [show j + (i - j) = i by omega] at h2
      have := h2 hb
      rw [hk, hc.not] at this
      cases this
  have hmem : ∀ (l : List Nat) (x : Nat), x ∈ l → ∃ i, i < l.length ∧ l.getD i 0 = x := by
    intro l x hx
    obtain ⟨i, hi, rfl⟩ := List.mem_iff_getElem.1 hx
    exact ⟨i, hi, by rw [List.getD_eq_getElem?_getD, List.getElem?_eq_getElem hi]; rfl⟩
  have e1 : E.filter L = E.take j := by
    conv => lhs; rw [← List.take_append_drop j E]
    rw [List.filter_append, List.filter_eq_self.2, List.filter_eq_nil_iff.2, List.append_nil]
    · intro x hx
      obtain ⟨i, hi, rfl⟩ := hmem _ x hx
      rw [List.length_drop] at hi
      have : (E.drop j).getD i 0 = E.getD (j + i) 0 := by rw [List.getD_eq_getElem?_getD, List.getD_eq_getElem?_getD, List.getElem?_drop]
      rw [this, haft (j + i) (by omega) (by omega)]
      simp
    · intro x hx
      obtain ⟨i, hi, rfl⟩ := hmem _ x hx
      rw [List.length_take] at hi
      have : (E.take j).getD i 0 = E.getD i 0 := by rw [List.getD_eq_getElem?_getD, List.getD_eq_getElem?_getD, List.getElem?_take_of_lt (by omega)]
      rw [this]
      exact hbef i (by omega)
  refine ⟨by rw [e1, List.length_take]; omega, ?_⟩
  have e2 : E.filter (updL L k) = E.take (j + 1) := by
    conv => lhs; rw [← List.take_append_drop (j + 1) E]
    rw [List.filter_append, List.filter_eq_self.2, List.filter_eq_nil_iff.2, List.append_nil]
    · intro x hx
      obtain ⟨i, hi, rfl⟩ := hmem _ x hx
      rw [List.length_drop] at hi
      have : (E.drop (j + 1)).getD i 0 = E.getD (j + 1 + i) 0 := by rw [List.getD_eq_getElem?_getD, List.getD_eq_getElem?_getD, List.getElem?_drop]
      rw [this]
      unfold updL
      rw [if_neg, haft (j + 1 + i) (by omega) (by omega)]
      · simp
      · intro e
        have hn := chain_nodup hch
        rw [List.getD_eq_getElem?_getD, List.getElem?_eq_getElem (by omega)] at e
        have h1 : E[j + 1 + i]? = E[j]? := by rw [hj, List.getElem?_eq_getElem (by omega)]; simpa using e
        have := (List.getElem?_inj (by omega) hn).1 h1
        omega
    · intro x hx
      obtain ⟨i, hi, rfl⟩ := hmem _ x hx
      rw [List.length_take] at hi
      have : (E.take (j + 1)).getD i 0 = E.getD i 0 := by rw [List.getD_eq_getElem?_getD, List.getD_eq_getElem?_getD, List.getElem?_take_of_lt (by omega)]
      rw [this]
      unfold updL
      by_cases hij : i = j
      · rw [hij, hk, if_pos rfl]
      · split
        · rfl
        · exact hbef i (by omega)
  rw [e2, List.length_take]
  omega

/-! ### the walk -/
def wpGA (P : Program) (ops : Array Oper) (C : Nat → World → Prop) (E : List Nat) (Q : Act → World → Prop) : Nat → List Oper → Act → Prop
  | _, [], a => ∀ w, C E.length w → Q a w
  | k, o :: rest, a => ∃ a', StepG P ops .any (CLp C E) k o a a' ∧ wpGA P ops C E Q (k + 1) rest a'
theorem wpGA_path {Q : Act → World → Prop} : ∀ (l : List Oper) (k : Nat) (a : Act), wpGA P ops C E Q k l a →
    ∃ S : Nat → Act, S 0 = a ∧ (∀ i o, l[i]? = some o → StepG P ops .any (CLp C E) (k + i) o (S i) (S (i + 1))) ∧ ∀ w, C E.length w → Q (S l.length) w
  | [], k, a, h => ⟨fun _ => a, rfl, fun i o hi => by simp at hi, h⟩
  | o :: rest, k, a, ⟨a', h1, h2⟩ => by
    obtain ⟨S, g0, g1, g2⟩ := wpGA_path rest (k + 1) a' h2
    refine ⟨fun i => match i with | 0 => a | i + 1 => S i, rfl, fun i o' hi => ?_, fun w hw => g2 w hw⟩
    cases i with
    | zero =>
      obtain rfl : o = o' := by simpa using hi
      show StepG P ops .any (CLp C E) (k + 0) o a (S 0)
      rw [g0]; exact h1
    | succ i =>
      have := g1 i o' (by simpa using hi)
      rw [show k + (i + 1) = k + 1 + i by omega]
      exact this
/-- THE REGION -/
theorem wp_region_G {id : Nat} {Q : Exit → Act → World → Prop} {a : Act} {w : World} {l : List Oper} (hm : P.follows .mixedOrders = true) (hB : Region.lexB .any l.toArray = true) (hD : dstsB l a.tmps.size = true) (hch : chainB l.toArray E = true)
    (hC : C 0 { w with drawn := w.drawn + 1 }) (h : wpGA P l.toArray C E (fun a' w' => Q .normal a' w') 0 l a) : (Code.region id l.toArray true).wp P Q a w := by
  obtain ⟨S, hS0, hst, hfin⟩ := wpGA_path l 0 a h
  have hB' : Region.lexFrom .any l.toArray l.toArray.size 0 (Array.replicate l.toArray.size false) = true := by
    simp only [Region.lexB, Bool.and_eq_true] at hB; exact hB.2
  have hf : ∀ j, (Array.replicate l.toArray.size false).getD j false = true → False := by
    intro j hl
    by_cases hi : j < l.length <;> simp [hi] at hl
  refine wp_region_any hm ?_
  refine wpAny_G (P := P) (ops := l.toArray) (CL := CLp C E) (md := .any) (a0 := a) (S := S) hS0 (fun k o hk => by have := hst k o (by simpa using hk); rw [Nat.zero_add] at this; exact this)
    (fun k o d hk hd => dsts_lt hD (k := k) (by simpa using hk) hd) (fun j k x y d hj hk hx hy => dsts_one hD (j := j) (k := k) (by simpa using hj) (by simpa using hk) hx hy)
    (fun i oi hi => lexFrom_free _ 0 _ hB' (by simp) (fun i => ?_) (by simp) i oi (Nat.zero_le _) hi) (fun a1 w1 L hcl hall ha => ?_) _ _ _ _ ⟨_, rfl, ?_⟩ ⟨?_, rfl, rfl, by simp, fun j oj hj hl => (hf j hl).elim, fun j oj d hj hl => (hf j hl).elim, fun t _ => rfl⟩
  · by_cases hi : i < l.length
    · simp [hi]
    · simp [hi]; omega
  · have e : E.filter L = E := List.filter_eq_self.2 (fun x hx => hall x (chain_lt hch x hx))
    unfold CLp at hcl
    rw [e] at hcl
    have := hfin w1 hcl
    rw [ha]
    simpa using this
  · rw [count_none]; simp
  · unfold CLp
    have e : E.filter (fun j => (Array.replicate l.toArray.size false).getD j false) = [] := List.filter_eq_nil_iff.2 (fun x _ h => hf x h)
    rw [e]
    exact hC

variable {Q : Act → World → Prop} {o : Oper} {rest : List Oper} {k : Nat} {fs : List Value} {ds : List Deferred}
/-- the walk over a list -/
def wpG (P : Program) (ops : Array Oper) (C : Nat → World → Prop) (E : List Nat) (Q : Act → World → Prop) (ds : List Deferred) (k : Nat) (l : List Oper) (fs : List Value) : Prop := wpGA P ops C E Q k l (mkA fs ds)
theorem wp_chain_list {id : Nat} {Q : Exit → Act → World → Prop} {w : World} {l : List Oper} {fs : List Value} {ds : List Deferred} (E : List Nat) (C : Nat → World → Prop) (hm : P.follows .mixedOrders = true) (hB : Region.lexB .any l.toArray = true) (hD : dstsB l fs.length = true) (hch : chainB l.toArray E = true)
    (hC : C 0 { w with drawn := w.drawn + 1 }) (h : wpG P l.toArray C E (fun a' w' => Q .normal a' w') ds 0 l fs) : (Code.region id l.toArray true).wp P Q ⟨fs.toArray, ds⟩ w :=
  wp_region_G hm hB (by simpa using hD) hch hC h
theorem wpG_run (v : Value) (hE : E.contains k = false) (hs : notSelect o = true) (hw : wantedL ops fs o = true) (hrun : ∀ j w, C j w → (execOp (ev fs) o).run P w = .ok (.value v) w) (c : wpG P ops C E Q ds (k + 1) rest (setL fs o.dst v)) : wpG P ops C E Q ds k (o :: rest) fs :=
  ⟨_, .val v (wantedL_eq.trans hw) (fun L a1 w hC _ ht K Q' hK => by
    have e : execOp a1.eval o = execOp (mkA fs ds).eval o := execOp_congr o (fun cs b h => by simp [notSelect, h] at hs) fun x hx => eval_looks ht x hx
    unfold Oper.wp
    rw [e, mkA_evalF, hrun _ w hC]
    exact hK _ (by unfold CLp at *; rw [filter_upd_not hE]; exact hC)), by rw [mkA_put]; exact c⟩
theorem wpG_run1 {x : Operand} (vx v : Value) (hE : E.contains k = false) (hx : ev fs x = vx) (hs : notSelect o = true) (hw : wantedL ops fs o = true) (hrun : ∀ j w (ρ : Operand → Value), C j w → ρ x = vx → (∀ c, ρ (.const c) = c) → (execOp ρ o).run P w = .ok (.value v) w) (c : wpG P ops C E Q ds (k + 1) rest (setL fs o.dst v)) : wpG P ops C E Q ds k (o :: rest) fs :=
  wpG_run v hE hs hw (fun j w hC => hrun j w _ hC hx fun _ => rfl) c
theorem wpG_run2 {x y : Operand} (vx vy v : Value) (hE : E.contains k = false) (hx : ev fs x = vx) (hy : ev fs y = vy) (hs : notSelect o = true) (hw : wantedL ops fs o = true) (hrun : ∀ j w (ρ : Operand → Value), C j w → ρ x = vx → ρ y = vy → (∀ c, ρ (.const c) = c) → (execOp ρ o).run P w = .ok (.value v) w) (c : wpG P ops C E Q ds (k + 1) rest (setL fs o.dst v)) : wpG P ops C E Q ds k (o :: rest) fs :=
  wpG_run v hE hs hw (fun j w hC => hrun j w _ hC hx hy fun _ => rfl) c
theorem wpG_move {x : Operand} (v : Value) (ho : o.op = .move x) (hE : E.contains k = false) (hv : ev fs x = v) (hw : wantedL ops fs o = true) (c : wpG P ops C E Q ds (k + 1) rest (setL fs o.dst v)) : wpG P ops C E Q ds k (o :: rest) fs :=
  wpG_run v hE (by simp [notSelect, ho]) hw (fun j w _ => by simp only [execOp, ho, hv]; rfl) c
theorem wpG_assign {x : Operand} (v : Value) (ho : o.op = .assign x) (hE : E.contains k = false) (hv : ev fs x = v) (hw : wantedL ops fs o = true) (c : wpG P ops C E Q ds (k + 1) rest (setL fs o.dst v)) : wpG P ops C E Q ds k (o :: rest) fs :=
  wpG_run v hE (by simp [notSelect, ho]) hw (fun j w _ => by simp only [execOp, ho, hv]; rfl) c
theorem wpG_end (h : ∀ w, C E.length w → Q ⟨fs.toArray, ds⟩ w) : wpG P ops C E Q ds k [] fs := h
end
end Go.Own

end
section
namespace Go.Own
open Go.RowKit
section
variable {P : Program} {ops : Array Oper} {E : List Nat} {C : Nat → World → Prop} {Q : Act → World → Prop} {ds : List Deferred} {k : Nat} {o : Oper} {rest : List Oper} {fs : List Value}
/-- what an operation leaves in its slot -/
def leaves (v : Value) (n : Next) : Prop := n = .value v ∨ (n = .skip ∧ v = undef)
/-- operation number j of the chain -/
theorem wpG_op (j : Nat) (v : Value) (n : Next) (hn : leaves v n) (hch : chainB ops E = true) (hk : ops[k]? = some o) (hj : E[j]? = some k) (hs : notSelect o = true) (hw : wantedL ops fs o = true)
    (hrun : ∀ w, C j w → ∃ w', (execOp (ev fs) o).run P w = .ok n w' ∧ C (j + 1) w') (c : wpG P ops C E Q ds (k + 1) rest (setL fs o.dst v)) : wpG P ops C E Q ds k (o :: rest) fs :=
  ⟨_, .val v (wantedL_eq.trans hw) (fun L a1 w hC hcm ht K Q' hK => by
    have e : execOp a1.eval o = execOp (mkA fs ds).eval o := execOp_congr o (fun cs b h => by simp [notSelect, h] at hs) fun x hx => eval_looks ht x hx
    obtain ⟨p1, p2⟩ := chain_phase hch hj hk hcm
    unfold CLp at hC
    rw [p1] at hC
    obtain ⟨w', hr, hC'⟩ := hrun w hC
    unfold Oper.wp
    rw [e, mkA_evalF, hr]
    have hfin := hK w' (by unfold CLp; rw [p2]; exact hC')
    rcases hn with rfl | ⟨rfl, rfl⟩
    · exact hfin
    · exact hfin), by rw [mkA_put]; exact c⟩
end
end Go.Own

end
section
namespace Go.Own
open Go.RowKit
/-- a slice literal of one element of many cells, out of the same for cells that are known to be there -/
theorem run_slot_one {P : Program} {t e : TypeId} {c : Nat} (hu : P.underlying t = some (.slice e)) (hslot : ∀ f : Nat → Value, P.builtSlice e 1 [(0, .agg ((List.range c).map f).toArray)] = some ((List.range c).map f).toArray) (cs : List Value) (hl : cs.length = c) (w : World) :
    (Instr.buildSlice t 1 #[(0, .agg cs.toArray)]).run P w = .ok (.slice (some ⟨w.heap.size, 0, none⟩) 1 1) (w.alloc (.cells cs.toArray e)) := by
  have hrm : (List.range c).map (fun i => cs.getD i undef) = cs := by
    apply List.ext_getElem
    · simp [hl]
    · intro i h1 h2
      simp [List.getD, h2]
  have h : P.builtSlice e 1 [(0, .agg cs.toArray)] = some cs.toArray := by
    have h := hslot (fun i => cs.getD i undef)
    rw [hrm] at h
    exact h
  unfold Program.builtSlice at h
  cases hie : P.info? e with
  | none => simp [hie] at h
  | some ie =>
    simp only [hie] at h
    cases hz : ie.zero with
    | none => simp [hz] at h
    | some z =>
      simp only [hz] at h
      by_cases hc : 1 * ie.size > 2 ^ 24 ∨ 1 * ie.size = 0
      · simp only [Nat.one_mul] at hc
        simp at h
        omega
      · rw [if_neg hc] at h
        have h1 : ¬ (1 * ie.size > 2 ^ 24) := fun h' => hc (Or.inl h')
        have h2 : ¬ (1 * ie.size = 0) := fun h' => hc (Or.inr h')
        simp only [Nat.one_mul] at h1 h2 h
        simp [Instr.buildSlice, run_underlying hu, sizeOf, typeInfo, zeroValue, hie, hz, newRow, h1, h2, h]
/-- .. in a walk -/
theorem wpList_slot_one {P : Program} {ops : Array Oper} {rest : List Oper} {o : Oper} {a : Act} {w : World} {Q : Exit → Act → World → Prop} (hgd : o.guard = none) (t : TypeId) (x : Operand) (ho : o.op = .buildSlice t 1 #[(0, x)]) (cs : List Value) (e : TypeId) (hx : a.eval x = .agg cs.toArray)
    (hrun : (Instr.buildSlice t 1 #[(0, .agg cs.toArray)]).run P w = .ok (.slice (some ⟨w.heap.size, 0, none⟩) 1 1) (w.alloc (.cells cs.toArray e)))
    (h : wpList P ops Q rest (a.put o.dst (.slice (some ⟨w.heap.size, 0, none⟩) 1 1)) (w.alloc (.cells cs.toArray e))) : wpList P ops Q (o :: rest) a w := by
  refine wpList_plain hgd fun K hK => ?_
  unfold Oper.wp
  simp [execOp, ho, hx, hrun, Result.andThen]
  exact hK _ _ h
theorem storeAt_E {P : Program} {o : Oper} {x y : Tmp} {t : TypeId} (ho : o.op = .store t (.tmp x) (.tmp y)) {ρ : Operand → Value} {w w' : World} {a v : Value} (h0 : ρ (.tmp x) = a) (h1 : ρ (.tmp y) = v) (hrun : (Instr.storeAt t a v).run P w = .ok () w') : (execOp ρ o).run P w = .ok .skip w' := by
  unfold execOp
  simp [ho, h0, h1, hrun, Result.andThen]
end Go.Own

end
