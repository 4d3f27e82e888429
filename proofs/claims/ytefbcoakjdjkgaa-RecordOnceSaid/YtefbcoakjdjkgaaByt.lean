/- Bytes of one's own, for every later layer: slices (AB), arrays (A8); reading, storing, appending, making. -/
import Derived.Test.YtefbcoakjdjkgaaRows
import Derived.Test.YtefbcoakjdjkgaaArr
import Derived.Test.YtefbcoakjdjkgaaStr
import Derived.Test.YtefbcoakjdjkgaaIn
import Derived.WalkKit
import Derived.OwnWalk
namespace Go.Proofs.Ytefbcoakjdjkgaa
open Go.RowKit Go.Own
namespace Byt

theorem infoU8 : (Try.prog.info? 5).map (fun i => (i.zero, i.size, i.bytes)) = some (some (.int .u8 0), 1, 1) := by kernel_rfl

theorem vnone {w : World} {D : Nat → Prop} {ao : Option Addr} {l : List UInt8} (hV : View w D ao l) (h : ao = none) : l = [] := by
  rcases hV with h' | ⟨b, o, h', _⟩
  · exact h'
  · rw [h] at h'; cases h'
theorem vat {w : World} {D : Nat → Prop} {ao : Option Addr} {l : List UInt8} (hV : View w D ao l) {k : Nat} (hk : k < l.length) :
    ∃ b o, ao = some ⟨b, o, none⟩ ∧ D b ∧ b < w.heap.size ∧ w.cell? ⟨b, o + k, none⟩ = some (.int .u8 ((l.getD k 0).toNat : Int)) := by
  rcases hV with h | ⟨b, o, e, h1, h2, h3⟩
  · rw [h] at hk; simp at hk
  · exact ⟨b, o, e, h1, h2, h3 k hk⟩
theorem vcells {w : World} {D : Nat → Prop} {ao : Option Addr} {bs : List UInt8} (h : View w D ao bs) : ∀ a, ao = some a → ∀ j u, (bs.map byteV)[j]? = some u → w.cell? (a.add j) = some u := by
  intro a ha j u hu
  have hj := (List.getElem?_eq_some_iff.1 hu).1
  rw [List.length_map] at hj
  rcases h with rfl | ⟨b, o, hab, _, _, hc⟩
  · simp at hj
  · rw [ha] at hab
    cases hab
    have e : (⟨b, o, none⟩ : Addr).add j = ⟨b, o + j, none⟩ := by unfold Addr.add; split <;> simp_all
    rw [e, hc j hj]
    rw [← hu]
    simp [byteV, hj]
/-- new memory does not touch what is read -/
theorem vlater {w w' : World} {D : Nat → Prop} {ao : Option Addr} {l : List UInt8} (h : View w D ao l) (g : Below w.heap.size w w') : View w' D ao l := by
  rcases h with h | ⟨b, o, e, hS, hb, hc⟩
  · exact .inl h
  · exact .inr ⟨b, o, e, hS, Nat.lt_of_lt_of_le hb g.size, fun j hj => (World.cell?_of_block (w := w) (g.block b hb)).trans (hc j hj)⟩

/-- a slice of bytes of one's own -/
def AB (ao : Option Addr) (n cap : Nat) (l : List UInt8) : Asn := ARow 5 1 (.slice ao n cap) n (l.map byteV)
theorem AB.view {w : World} {S : Nat → Prop} {ao : Option Addr} {n cap : Nat} {l : List UInt8} (h : (AB ao n cap l).holds S w) : View w S ao l := Row.view h
theorem AB.len {w : World} {S : Nat → Prop} {ao : Option Addr} {n cap : Nat} {l : List UInt8} (h : (AB ao n cap l).holds S w) : l.length = n ∧ n ≤ cap ∧ cap ≤ maxLen ∧ (ao = none → n = 0 ∧ cap = 0) := by
  obtain ⟨ao', cap', hv, h1, h2, h3, _⟩ := Row.form h
  simp only [Value.slice.injEq, true_and] at hv
  obtain ⟨rfl, rfl⟩ := hv
  exact ⟨by have := h.own.1; simpa using this, h1, h2, fun e => ⟨(h3 e).1, (h3 e).2.1⟩⟩
section
variable {B : Nat} {w0 w : World} {Ps : List Asn} {ao : Option Addr} {n cap : Nat} {l : List UInt8}
theorem ab_len (H : St B w0 w Ps) (i : Nat) (hi : Ps[i]? = some (AB ao n cap l)) : l.length = n ∧ n ≤ cap ∧ cap ≤ maxLen ∧ (ao = none → n = 0 ∧ cap = 0) := by
  obtain ⟨S, hS, _⟩ := H.at i hi
  exact AB.len hS
theorem ab_view (H : St B w0 w Ps) (i : Nat) (hi : Ps[i]? = some (AB ao n cap l)) : View w (fun k => B ≤ k) ao l := by
  obtain ⟨S, hS, hB, _⟩ := H.at i hi
  exact (AB.view hS).mono hB
/-- the nil slice, as one of one's own -/
theorem ab_nil (H : St B w0 w Ps) : St B w0 w (AB none 0 0 [] :: Ps) :=
  H.new (S' := fun _ => False) (AB none 0 0 []) (Row.nil _ _ _) ((Step.refl (fun _ => False) w))
theorem ab_str (H : St B w0 w Ps) (i : Nat) (hi : Ps[i]? = some (AB ao n cap l)) :
    (convert 28 9 (.slice ao n cap)).run Try.prog w = .ok (.string (strB l)) w := by
  obtain ⟨S, hS, _⟩ := H.at i hi
  obtain ⟨rfl, _⟩ := AB.len hS
  exact run_str (P := Try.prog) 28 5 9 Try.underlying28 Try.underlying5 Try.underlying9 (AB.view hS) cap
/-- []byte{} -/
theorem ab_empty (H : St B w0 w Ps) : St B w0 (w.alloc (.cells #[] 5)) (AB (some ⟨w.heap.size, 0, none⟩) 0 0 [] :: Ps) :=
  H.new (S' := fun k => k = w.heap.size) (AB _ 0 0 []) (Row.made w (#[] : Array Value) 5 1 0 (Nat.zero_le _) rfl) (((Step.refl (fun _ => False) w).alloc (.cells #[] 5)).to (fun k hk => .inr (Nat.le_of_eq hk.symm)))
/-- one byte of a slice of one's own -/
theorem ab_byte (H : St B w0 w Ps) (i : Nat) (hi : Ps[i]? = some (AB ao n cap l)) (j : Nat) (hj : j < n) :
    ∃ g, ao = some ⟨g, 0, none⟩ ∧ w.cell? ⟨g, j, none⟩ = some (.int .u8 ((l.getD j 0).toNat : Int)) ∧ w.frozen? ⟨g, j, none⟩ = false ∧
      ∀ c : UInt8, St B w0 (w.setCell ⟨g, j, none⟩ (.int .u8 (c.toNat : Int))) (Ps.set i (AB ao n cap (l.set j c))) := by
  obtain ⟨S, hS, _, put⟩ := H.at i hi
  have hlen := (AB.len hS).1
  obtain ⟨hown, hset⟩ := hS
  rcases hown.2 with ⟨hv, rfl⟩ | ⟨g, cap', cur, hv, h0, hb, hnc, hcm, hcs, htake⟩
  · omega
  · simp only [Value.slice.injEq, true_and] at hv
    obtain ⟨rfl, rfl⟩ := hv
    simp only [Nat.mul_one] at hcs htake
    have hcur : cur[j]? = some (byteV (l.getD j 0)) := by
      have : (cur.toList.take n)[j]? = (l.map byteV)[j]? := by rw [htake]
      rw [List.getElem?_take_of_lt hj] at this
      rw [← Array.getElem?_toList, this]
      simp [hlen, hj]
    refine ⟨g, rfl, cell_of_block hb hcur, frozen_of_block hb, fun c => ?_⟩
    refine put S _ (AB (some ⟨g, 0, none⟩) n cap (l.set j c)) ?_ ((Step.refl S w).setCell (a := ⟨g, j, none⟩) (Or.inl ((hset g).2 rfl)) _)
    have := (hown.stored j (byteV c)).1
    rw [← List.map_set] at this
    exact ⟨this, hset⟩
theorem madeBytes (n : Nat) : (madeCells (Value.int .u8 0).cells (n * 1)).toList = (List.replicate n (0 : UInt8)).map byteV := by
  unfold madeCells
  apply List.ext_getElem?
  intro i
  by_cases hi : i < n
  · simp [hi, Value.cells, byteV, Nat.mod_one]
  · simp [hi]
/-- make([]byte, n) -/
theorem ab_make (H : St B w0 w Ps) (kl kc : IntKind) (n : Nat) (hn : n ≤ 1000000000) :
    ∃ w', (Instr.makeSlice 28 (.int kl (n : Int)) (.int kc (n : Int))).run Try.prog w = .ok (.slice (some ⟨w.heap.size, 0, none⟩) n n) w' ∧ St B w0 w' (AB (some ⟨w.heap.size, 0, none⟩) n n (List.replicate n 0) :: Ps) := by
  obtain ⟨i0, hi, hz0, hz1, hz2⟩ := info_parts infoU8
  obtain ⟨w', hr, hown, hg⟩ := run_make_full (P := Try.prog) w 0 28 5 i0 (.int .u8 0) 1 Try.underlying28 hi hz0 hz1 kl kc n (by rw [hz2]; omega) (by unfold maxLen; omega) (Nat.zero_le _)
  rw [madeBytes] at hown
  refine ⟨w', hr, H.new (S' := fun k => k = w.heap.size) (AB _ n n _) ⟨hown, fun k => by simp [Value.ownBlock, eq_comm]⟩ ?_⟩
  exact ((Step.refl (fun _ => False) w).grown hg (by intro k hk; cases hk)).to (fun k hk => .inr (Nat.le_of_eq hk.symm))
/-- append(x, news...) onto a slice of one's own -/
theorem ab_append (H : St B w0 w Ps) (i : Nat) (hi : Ps[i]? = some (AB ao n cap l)) (ty : TypeId) (bo : Option Addr) (m c : Nat) (news : List UInt8) (hno : bo = none → m = 0 ∧ c = 0) (hl : news.length = m)
    (hc : ∀ a, bo = some a → ∀ j u, (news.map byteV)[j]? = some u → w.cell? (a.add j) = some u) (b1 : n + m ≤ 1000000000) :
    ∃ ao' cap' w', (Builtin.append_ #[28, 28] ty #[.slice ao n cap, .slice bo m c]).run Try.prog w = .ok (.slice ao' (n + m) cap') w' ∧ St B w0 w' (Ps.set i (AB ao' (n + m) cap' (l ++ news))) := by
  obtain ⟨i0, hi0, hz0, hz1, hz2⟩ := info_parts infoU8
  obtain ⟨S, hS, _, put⟩ := H.at i hi
  obtain ⟨v', w', T', hr, hrow, hst⟩ := run_append_row (P := Try.prog) w 28 ty 5 i0 (.int .u8 0) 1 1 Try.underlying28 hi0 hz0 hz1 hz2 rfl (by decide) (.slice ao n cap) n (l.map byteV) hS bo m c (news.map byteV) hno (by rw [List.length_map, hl, Nat.mul_one]) hc (byteV_one _) (by unfold maxLen; omega) (by omega)
  obtain ⟨ao', cap', rfl, _⟩ := hrow.form
  rw [← List.map_append] at hrow
  exact ⟨ao', cap', w', hr, put T' w' (AB ao' (n + m) cap' (l ++ news)) hrow hst⟩
theorem wpList_ab_append {ops : Array Oper} {rest : List Oper} {o : Oper} {a : Act} {Q : Exit → Act → World → Prop} (hgd : o.guard = none) (s x : Operand)
    (ho : o.op = .call { callee := .builtin .append, args := #[s, x], argTypes := #[28, 28] }) (H : St B w0 w Ps) (i : Nat) (hi : Ps[i]? = some (AB ao n cap l)) (hs : a.eval s = .slice ao n cap)
    (bo : Option Addr) (m c : Nat) (news : List UInt8) (hx : a.eval x = .slice bo m c) (hno : bo = none → m = 0 ∧ c = 0) (hl : news.length = m)
    (hc : ∀ a, bo = some a → ∀ j u, (news.map byteV)[j]? = some u → w.cell? (a.add j) = some u) (b1 : n + m ≤ 1000000000)
    (h : ∀ ao' cap' w', St B w0 w' (Ps.set i (AB ao' (n + m) cap' (l ++ news))) → wpList Try.prog ops Q rest (a.put o.dst (.slice ao' (n + m) cap')) w') : wpList Try.prog ops Q (o :: rest) a w := by
  refine wpList_plain hgd fun K hK => ?_
  obtain ⟨ao', cap', w', hrun, h1⟩ := ab_append H i hi o.type bo m c news hno hl hc b1
  unfold Oper.wp
  simp [execOp, ho, resolve, invoke, builtin, hs, hx, hrun, Result.andThen]
  exact hK _ _ (h ao' cap' w' h1)
/-- a new byte, as append takes it -/
theorem one_cells8 (w : World) (c : UInt8) (t : TypeId) : ∀ a, some (⟨w.heap.size, 0, none⟩ : Addr) = some a → ∀ j u, ([c].map byteV)[j]? = some u → (w.alloc (.cells #[.int .u8 (c.toNat : Int)] t)).cell? (a.add j) = some u := cell_new_byte w c t
end

/-- an array of bytes in a block of one's own -/
def A8 (b : Nat) (t : TypeId) (l : List UInt8) : Asn := AVals b t (l.map byteV)
section
variable {B : Nat} {w0 w : World} {Ps : List Asn} {b : Nat} {t : TypeId} {l : List UInt8}
theorem A8.cell (h : St B w0 w Ps) (i : Nat) (hi : Ps[i]? = some (A8 b t l)) (j : Nat) (hj : j < l.length) : w.cell? ⟨b, j, none⟩ = some (.int .u8 ((l.getD j 0).toNat : Int)) ∧ w.frozen? ⟨b, j, none⟩ = false :=
  h.cellV i hi j (by simp [byteV, hj])
theorem A8.store (h : St B w0 w Ps) (i : Nat) (hi : Ps[i]? = some (A8 b t l)) (j : Nat) (c : UInt8) : St B w0 (w.setCell ⟨b, j, none⟩ (.int .u8 (c.toNat : Int))) (Ps.set i (A8 b t (l.set j c))) := by
  have := h.storeV i hi j (byteV c)
  unfold A8
  rw [List.map_set]
  exact this
theorem A8.box (h : St B w0 w Ps) (t : TypeId) (l : List UInt8) : St B w0 (w.alloc (.cells (l.map byteV).toArray t)) (A8 w.heap.size t l :: Ps) := h.boxV t _
theorem A8.row (h : St B w0 w Ps) (i : Nat) (hi : Ps[i]? = some (A8 b t l)) : w.heap[b]? = some (.cells (l.map byteV).toArray t (0, 0)) := h.rowV i hi
theorem A8.there (h : St B w0 w Ps) (i : Nat) (hi : Ps[i]? = some (A8 b t l)) (r : List UInt8) (hl : r.length = l.length) : w.there b 0 (r.map byteV).toArray.size := h.thereV i hi (by simp [hl])
theorem A8.setAll (h : St B w0 w Ps) (i : Nat) (hi : Ps[i]? = some (A8 b t l)) (r : List UInt8) (hl : r.length = l.length) : St B w0 (w.setCells b 0 (r.map byteV).toArray.toList) (Ps.set i (A8 b t r)) := by
  have := Own.St.setAll i (r.map byteV) 0 w Ps (l.map byteV) h hi (by simp [hl])
  simpa [A8] using this
theorem A8.view (h : St B w0 w Ps) (i : Nat) (hi : Ps[i]? = some (A8 b t l)) : View w (fun k => B ≤ k) (some ⟨b, 0, none⟩) l := by
  obtain ⟨h1, h2⟩ := h.ltV i hi
  exact .inr ⟨b, 0, rfl, h1, h2, fun j hj => by rw [Nat.zero_add]; exact (A8.cell h i hi j hj).1⟩
end
theorem one8 (l : List UInt8) : (l.map byteV).toArray.all (·.oneCell') = true := all_oneCell_toArray (fun v hv => byteV_one l v hv)
/-- how many cells a fingerprint has -/
theorem info_sum (l : List UInt8) (h : l.length = 32) : (Try.prog.info? 25).map (·.size) = some (l.map byteV).toArray.size := by
  have e : (l.map byteV).toArray.size = 32 := by simp [h]
  have h0 : (Try.prog.info? 25).map (fun i => i.size) = some 32 := by kernel_rfl
  rw [e]
  exact h0

/-- an operation that is carried out, also behind a guard -/
theorem wpList_want {P : Program} {ops : Array Oper} {rest : List Oper} {o : Oper} {a : Act} {w : World} {Q : Exit → Act → World → Prop} (hw : Region.wanted o (yielded ops a.tmps) = true) (h : o.wp P a w (fun a' w' => wpList P ops Q rest a' w') Q) : wpList P ops Q (o :: rest) a w := by
  unfold wpList
  rw [if_pos hw]
  exact .inl h
/-- string(b) -/
theorem wpList_str8 {ops : Array Oper} {rest : List Oper} {o : Oper} {a : Act} {w : World} {Q : Exit → Act → World → Prop} (hw : Region.wanted o (yielded ops a.tmps) = true) (x : Operand) (ho : o.op = .convert 28 9 x) (ao : Option Addr) (n cap : Nat) (hx : a.eval x = .slice ao n cap)
    (D : Nat → Prop) (l : List UInt8) (hV : View w D ao l) (hn : l.length = n) (h : wpList Try.prog ops Q rest (a.put o.dst (.string (strB l))) w) : wpList Try.prog ops Q (o :: rest) a w := by
  refine wpList_want hw ?_
  subst hn
  have hc := run_str (P := Try.prog) 28 5 9 Try.underlying28 Try.underlying5 Try.underlying9 hV cap
  unfold Oper.wp execOp
  simp only [ho, hx, Sem.run_bind, hc, Result.andThen_ok, Sem.run_pure]
  exact h
theorem vtake {w : World} {D : Nat → Prop} {ao : Option Addr} {l : List UInt8} (h : View w D ao l) (k : Nat) : View w D ao (l.take k) := by
  rcases h with rfl | ⟨b, o, e, hS, hb, hc⟩
  · exact .inl (by simp)
  · refine .inr ⟨b, o, e, hS, hb, fun j hj => ?_⟩
    have hj2 : j < l.length ∧ j < k := by rw [List.length_take] at hj; omega
    rw [hc j hj2.1]
    simp [List.getD, List.getElem?_take, hj2.2]
/-- b[k:] begins k cells on -/
theorem vdrop {w : World} {D : Nat → Prop} {b o : Nat} {l : List UInt8} (h : View w D (some ⟨b, o, none⟩) l) (k : Nat) : View w D (some ⟨b, o + k, none⟩) (l.drop k) := by
  rcases h with rfl | ⟨b', o', e, hS, hb, hc⟩
  · exact .inl (by simp)
  · cases e
    refine .inr ⟨b, o + k, rfl, hS, hb, fun j hj => ?_⟩
    rw [List.length_drop] at hj
    rw [Nat.add_assoc, hc (k + j) (by omega)]
    simp [List.getD, List.getElem?_drop]

/-- an operation whose value is known -/
theorem wpList_val {P : Program} {ops : Array Oper} {rest : List Oper} {o : Oper} {a : Act} {w : World} {Q : Exit → Act → World → Prop} (hw : Region.wanted o (yielded ops a.tmps) = true) {v : Value} (hrun : (execOp a.eval o).run P w = .ok (.value v) w) (h : wpList P ops Q rest (a.put o.dst v) w) : wpList P ops Q (o :: rest) a w := by
  refine wpList_want hw ?_
  unfold Oper.wp
  rw [hrun]
  exact h
/-- what a part of bytes is, whatever memory they lie in -/
structure Cut (ao : Option Addr) (l : List UInt8) (a' : Option Addr) (l' : List UInt8) (m' c' : Nat) : Prop where
  view : ∀ w D, View w D ao l → View w D a' l'
  len : l'.length = m'
  cap : m' ≤ c' ∧ c' ≤ maxLen
  none : a' = none → c' = 0
section
variable {ao : Option Addr} {l : List UInt8} {m cap : Nat}
theorem cutTo (k : Nat) (hl : l.length = m) (hk : k ≤ m) (hm : m ≤ cap) (hc : cap ≤ maxLen) (hno : ao = none → cap = 0) :
    (∀ (o : Oper) (x y : Operand), o.op = .slice 28 x none (some y) none → ∀ (ρ : Operand → Value) w, ρ x = .slice ao m cap → ρ y = .int .i64 (k : Int) → (execOp ρ o).run Try.prog w = .ok (.value (.slice ao k cap)) w) ∧ Cut ao l ao (l.take k) k cap := by
  refine ⟨fun o x y ho ρ w h0 h1 => ?_, fun w D h => vtake h k, by rw [List.length_take]; omega, ⟨by omega, hc⟩, hno⟩
  unfold maxLen at hc
  cases ao with
  | none =>
    obtain rfl := hno rfl
    obtain rfl : m = 0 := by omega
    obtain rfl : k = 0 := by omega
    simp [execOp, ho, h0, h1, go_sem]
  | some a =>
    simp [execOp, ho, h0, h1, go_sem]
    omega
theorem cutFrom (k : Nat) (hl : l.length = m) (hk : k ≤ m) (hm : m ≤ cap) (hc : cap ≤ maxLen) (hno : ao = none → cap = 0) :
    ∃ a' c', (∀ (o : Oper) (x y : Operand), o.op = .slice 28 x (some y) none none → ∀ (ρ : Operand → Value) w, ρ x = .slice ao m cap → ρ y = .int .i64 (k : Int) → (execOp ρ o).run Try.prog w = .ok (.value (.slice a' (m - k) c')) w) ∧ Cut ao l a' (l.drop k) (m - k) c' := by
  have hc0 := hc
  unfold maxLen at hc
  cases ao with
  | none =>
    obtain rfl := hno rfl
    obtain rfl : m = 0 := by omega
    obtain rfl : k = 0 := by omega
    exact ⟨none, 0, fun o x y ho ρ w h0 h1 => by simp [execOp, ho, h0, h1, go_sem], fun w D h => by simpa using h, by simp [hl], ⟨Nat.le_refl _, Nat.zero_le _⟩, fun _ => rfl⟩
  | some a =>
    by_cases hck : cap = k
    · refine ⟨some a, 0, fun o x y ho ρ w h0 h1 => ?_, fun w D h => .inl (List.drop_eq_nil_of_le (by omega)), by rw [List.length_drop, hl], ⟨by omega, Nat.zero_le _⟩, fun h => by cases h⟩
      simp [execOp, ho, h0, h1, go_sem]
      rw [if_pos hk, if_pos hck, hck]; simp
    · refine ⟨some (a.add k), cap - k, fun o x y ho ρ w h0 h1 => ?_, fun w D h => ?_, by rw [List.length_drop, hl], ⟨by omega, by omega⟩, fun h => by cases h⟩
      · simp [execOp, ho, h0, h1, go_sem]
        rw [if_pos hk, if_neg hck]
      · rcases h with h | ⟨b, o, e, h1, h2, h3⟩
        · exact .inl (by rw [h, List.drop_nil])
        · obtain rfl : a = ⟨b, o, none⟩ := by simpa using e
          rw [add_of]
          exact vdrop (.inr ⟨b, o, rfl, h1, h2, h3⟩) k
theorem cutMid (j k : Nat) (hl : l.length = m) (hjk : j ≤ k) (hk : k ≤ m) (hm : m ≤ cap) (hc : cap ≤ maxLen) (hno : ao = none → cap = 0) :
    ∃ a' c', (∀ (o : Oper) (x y z : Operand), o.op = .slice 28 x (some y) (some z) none → ∀ (ρ : Operand → Value) w, ρ x = .slice ao m cap → ρ y = .int .i64 (j : Int) → ρ z = .int .i64 (k : Int) → (execOp ρ o).run Try.prog w = .ok (.value (.slice a' (k - j) c')) w) ∧ Cut ao l a' ((l.take k).drop j) (k - j) c' := by
  have hc0 := hc
  unfold maxLen at hc
  have hlk : ((l.take k).drop j).length = k - j := by rw [List.length_drop, List.length_take]; omega
  cases ao with
  | none =>
    obtain rfl := hno rfl
    obtain rfl : m = 0 := by omega
    obtain rfl : k = 0 := by omega
    obtain rfl : j = 0 := by omega
    exact ⟨none, 0, fun o x y z ho ρ w h0 h1 h2 => by simp [execOp, ho, h0, h1, h2, go_sem], fun w D h => .inl (by simp), hlk, ⟨Nat.le_refl _, Nat.zero_le _⟩, fun _ => rfl⟩
  | some a =>
    by_cases hck : cap = j
    · refine ⟨some a, 0, fun o x y z ho ρ w h0 h1 h2 => ?_, fun w D h => .inl (List.eq_nil_of_length_eq_zero (by omega)), hlk, ⟨by omega, Nat.zero_le _⟩, fun h => by cases h⟩
      simp [execOp, ho, h0, h1, h2, go_sem]
      rw [if_pos (by omega)]
      subst hck
      simp
      omega
    · refine ⟨some (a.add j), cap - j, fun o x y z ho ρ w h0 h1 h2 => ?_, fun w D h => ?_, hlk, ⟨by omega, by omega⟩, fun h => by cases h⟩
      · simp [execOp, ho, h0, h1, h2, go_sem]
        rw [if_pos (by omega)]
        simp [hck]
        omega
      · rcases vtake h k with h | ⟨b, o, e, h1, h2, h3⟩
        · exact .inl (by rw [h, List.drop_nil])
        · obtain rfl : a = ⟨b, o, none⟩ := by simpa using e
          rw [add_of]
          exact vdrop (.inr ⟨b, o, rfl, h1, h2, h3⟩) j
end

/-- the length of a slice -/
def lenV : Value → Nat
  | .slice _ n _ => n
  | _ => 0

end Byt
end Go.Proofs.Ytefbcoakjdjkgaa
