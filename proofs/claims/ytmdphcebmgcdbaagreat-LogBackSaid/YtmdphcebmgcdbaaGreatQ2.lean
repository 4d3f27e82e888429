/- Merged: Arr Str In Byt Giv Obj Lax Cpy FlaA FlaB LaxF FlaQ Gri ArrEq Roc -/
import Derived.Deep.MidRow
import Derived.Laws.Rows
import Derived.Lib.SlBytesRow
import Derived.Lib.Strings
import Derived.Deep.Slices
import Derived.OpenShut
import Derived.Test.YtmdphcebmgcdbaaGreatRows
import Derived.WalkKit
import Derived.OwnWalk
import Derived.Still
import Derived.Laws.IdiomCopy
import Derived.Lib.Hide
import Derived.Laws.StructEq
import Derived.Laws.Cover2
import Derived.Test.YtmdphcebmgcdbaaGreatQ1
set_option linter.unusedVariables false
section
namespace Go.Own
open Go.RowKit
theorem size_alloc' (w : World) (o : Obj) : (w.alloc o).heap.size = w.heap.size + 1 := by simp
def AVals (b : Nat) (t : TypeId) (vs : List Value) : Asn := ABlk b (.cells vs.toArray t (0, 0))
section
variable {B : Nat} {w0 w : World} {Ps : List Asn} {b : Nat} {t : TypeId} {vs : List Value}
theorem St.cellV (h : St B w0 w Ps) (i : Nat) (hi : Ps[i]? = some (AVals b t vs)) (j : Nat) {v : Value} (hj : vs[j]? = some v) : w.cell? ⟨b, j, none⟩ = some v ∧ w.frozen? ⟨b, j, none⟩ = false := by
  have hb := h.block i hi
  exact ⟨cell_of_block hb (by simpa using hj), frozen_of_block hb⟩
theorem St.storeV (h : St B w0 w Ps) (i : Nat) (hi : Ps[i]? = some (AVals b t vs)) (j : Nat) (v : Value) : St B w0 (w.setCell ⟨b, j, none⟩ v) (Ps.set i (AVals b t (vs.set j v))) := by
  obtain ⟨S, hS, _, put⟩ := h.at i hi
  refine put S _ (AVals b t (vs.set j v)) ⟨?_, hS.2⟩ ((Step.refl S w).setCell (a := ⟨b, j, none⟩) (Or.inl ((hS.2 b).2 rfl)) _)
  rw [block_setCell hS.1]
  simp
theorem St.boxV (h : St B w0 w Ps) (t : TypeId) (vs : List Value) : St B w0 (w.alloc (.cells vs.toArray t)) (AVals w.heap.size t vs :: Ps) := h.box _
theorem St.setAll (i : Nat) : ∀ (r : List Value) (o : Nat) (w : World) (Ps : List Asn) (vs : List Value), St B w0 w Ps → Ps[i]? = some (AVals b t vs) → o + r.length = vs.length → St B w0 (w.setCells b o r) (Ps.set i (AVals b t (vs.take o ++ r)))
  | [], o, w, Ps, vs, h, hi, hl => by
    have e : vs.take o ++ [] = vs := by rw [List.append_nil, List.take_of_length_le (by simp at hl; omega)]
    rw [e]
    have : Ps.set i (AVals b t vs) = Ps := by
      apply List.ext_getElem?
      intro j
      by_cases hj : j = i
      · subst hj
        have hlt : j < Ps.length := (List.getElem?_eq_some_iff.1 hi).1
        rw [List.getElem?_set_self hlt, hi]
      · rw [List.getElem?_set_ne (Ne.symm hj)]
    rw [this]
    exact h
  | v :: r, o, w, Ps, vs, h, hi, hl => by
    have hlt : i < Ps.length := (List.getElem?_eq_some_iff.1 hi).1
    have h1 := h.storeV i hi o v
    have h2 := St.setAll i r (o + 1) _ _ (vs.set o v) h1 (by rw [List.getElem?_set_self hlt]) (by simp at hl ⊢; omega)
    rw [List.set_set] at h2
    have e : (vs.set o v).take (o + 1) ++ r = vs.take o ++ v :: r := by
      have ho : o < vs.length := by simp at hl; omega
      have e0 : (vs.set o v).take o = vs.take o := by
        apply List.ext_getElem?
        intro j
        by_cases hj : j < o
        · rw [List.getElem?_take_of_lt hj, List.getElem?_take_of_lt hj, List.getElem?_set_ne (by omega)]
        · rw [List.getElem?_eq_none (by simp; omega), List.getElem?_eq_none (by simp; omega)]
      rw [List.take_succ_eq_append_getElem (by simpa using ho), e0]
      simp
    rw [e] at h2
    exact h2
theorem St.rowV (h : St B w0 w Ps) (i : Nat) (hi : Ps[i]? = some (AVals b t vs)) : w.heap[b]? = some (.cells vs.toArray t (0, 0)) := h.block i hi
theorem St.thereV (h : St B w0 w Ps) (i : Nat) (hi : Ps[i]? = some (AVals b t vs)) {n : Nat} (hn : n ≤ vs.length) : w.there b 0 n := by
  intro j hj
  obtain ⟨h1, h2⟩ := h.cellV i hi j (v := vs[j]) (by simp [show j < vs.length by omega])
  rw [Nat.zero_add]
  exact ⟨by rw [h1]; rfl, h2⟩
theorem St.later {w' : World} (h : St B w0 w Ps) (hb : Below w.heap.size w w') : St B w0 w' Ps :=
  h.quiet (T := fun _ => False) ⟨hb.os, hb.tape, hb.output, hb.size, fun k hk _ => hb.block k hk, fun _ h => h.elim⟩
theorem St.ltV (h : St B w0 w Ps) (i : Nat) (hi : Ps[i]? = some (AVals b t vs)) : B ≤ b ∧ b < w.heap.size := by
  obtain ⟨S, hS, hB, _⟩ := h.at i hi
  exact ⟨hB b ((hS.2 b).2 rfl), lt_of_block hS.1⟩
end
end Go.Own
end
section
namespace Go.Own
open Go.RowKit
def strB (l : List UInt8) : ByteArray := ⟨l.toArray⟩
theorem strB_nums (l : List UInt8) : strOfNums (l.map fun c => (c.toNat : Int)) = strB l := by
  apply ByteArray.ext
  apply Array.toList_inj.1
  show (strOfNums _).data.toList = (strB l).data.toList
  rw [strOfNums_data, List.map_map]
  show _ = l
  conv => rhs; rw [← List.map_id l]
  apply List.map_congr_left
  intro x _
  simp
theorem strB_toList (l : List UInt8) : (strB l).toList = l := by
  rw [Lib.toList_data]; rfl
theorem run_str {P : Program} {w : World} {D : Nat → Prop} {ao : Option Addr} {l : List UInt8} (src e dst : TypeId) (hs : P.underlying src = some (.slice e)) (he : P.underlying e = some (.int .u8)) (hd : P.underlying dst = some .string) (h : View w D ao l) (cap : Nat) :
    (convert src dst (.slice ao l.length cap)).run P w = .ok (.string (strB l)) w := by
  cases ao with
  | none =>
    rcases h with rfl | ⟨b, o, h, _⟩
    · exact run_convert_bytes_nil w src e hs he _ _ dst hd
    · cases h
  | some a =>
    rcases h with rfl | ⟨b, o, h, _, _, hc⟩
    · rw [run_convert_bytes_string w src dst e _ _ _ hs he hd]
      have := run_bytesToString (P := P) w a 0 cap [] (by simp [loadCells, loadCellsFrom])
      exact this
    · cases h
      have := run_convert_bytes_arg (P := P) w src e hs he b o l.length cap (l.map fun c => (c.toNat : Int)) (by simp) (fun i hi => by rw [hc i hi]; simp [List.getD, hi]) dst hd
      rw [this, strB_nums]
end Go.Own
end
section
namespace Go.Own
open Go.RowKit Go.ChangeShapes Go.WideShapes Go.Deep
abbrev InT (α : Type) := α → Nat → World → List Value → Prop
def inInt (k : IntKind) : InT Int := fun n _ _ cs => cs = [.int k n] ∧ (Lit.int k n).wf = true
def inSlice {α : Type} (size : Nat) (R : InT α) : InT (List α) := fun xs B w cs =>
  ∃ ao cap, cs = [.slice ao xs.length cap] ∧ xs.length ≤ cap ∧ cap ≤ maxLen ∧ (ao = none → cap = 0) ∧
    (xs = [] ∨ ∃ b o, ao = some ⟨b, o, none⟩ ∧ b < B ∧ b < w.heap.size ∧ ∀ i (hi : i < xs.length), ∃ cs', cs'.length = size ∧ (∀ j, j < size → w.cell? ⟨b, o + (i * size + j), none⟩ = cs'[j]?) ∧ R xs[i] B w cs')
def inBytes : InT (List UInt8) := fun l B w cs =>
  ∃ ao cap, cs = [.slice ao l.length cap] ∧ l.length ≤ cap ∧ cap ≤ maxLen ∧ (ao = none → cap = 0) ∧ View w (fun k => k < B) ao l
def Opens {α : Type} (P : Program) (t : TypeId) (R : InT α) : Prop :=
  ∀ (H : Type) (enc : TypeId × Value → H) (w : World) (fuel : Nat) (cs : List Value) (x : DataW H × List MemPlace),
    DataW.trod enc P w 0 (fun _ => true) true fuel t cs = some x → ∃ a, R a w.heap.size w cs
theorem opens_int {P : Program} {t : TypeId} {k : IntKind} (ht : P.underlying t = some (.int k)) : Opens P t (inInt k) := by
  intro H enc w fuel cs x h
  obtain ⟨n, rfl, _, hw⟩ := DataW.trod_int ht h
  exact ⟨n, rfl, hw⟩
theorem add_of (b o j : Nat) : (⟨b, o, none⟩ : Addr).add j = ⟨b, o + j, none⟩ := by unfold Addr.add; split <;> simp_all
theorem list_of {α : Type} {n : Nat} {p : Nat → α → Prop} (h : ∀ i, i < n → ∃ x, p i x) : ∃ xs : List α, xs.length = n ∧ ∀ i (hi : i < xs.length), p i xs[i] := by
  induction n with
  | zero => exact ⟨[], rfl, fun i hi => absurd hi (Nat.not_lt_zero _)⟩
  | succ n ih =>
    obtain ⟨xs, h1, h2⟩ := ih (fun i hi => h i (by omega))
    obtain ⟨x, hx⟩ := h n (by omega)
    refine ⟨xs ++ [x], by simp [h1], fun i hi => ?_⟩
    by_cases hin : i < xs.length
    · rw [List.getElem_append_left hin]; exact h2 i hin
    · have : i = n := by simp at hi; omega
      subst this
      rw [List.getElem_append_right (by omega)]
      simpa [h1] using hx
theorem opens_slice {α : Type} {P : Program} {t e : TypeId} {R : InT α} (size : Nat) (ht : P.underlying t = some (.slice e)) (hc : P.cellsOf e = size) (hpos : 0 < size) (hR : Opens P e R) : Opens P t (inSlice size R) := by
  intro H enc w fuel cs x h
  rcases open_slice ht h with ⟨rfl, _⟩ | ⟨a, len, cap, m, n, D, Pl, rfl, _, h1, h2, hm, _, hel⟩
  · exact ⟨[], none, 0, rfl, Nat.le_refl _, by unfold maxLen; omega, fun _ => rfl, .inl rfl⟩
  · simp only [if_true] at hm
    subst hm
    rw [hc] at hel
    obtain ⟨xs, k1, k2⟩ := list_of (n := len) (p := fun i (y : α) => ∃ cs', cs'.length = size ∧ (∀ j, j < size → w.cell? ((a.add (i * size)).add j) = cs'[j]?) ∧ R y w.heap.size w cs') (fun i hi => by
      obtain ⟨cs', hcs, hd⟩ := hel i (by omega)
      obtain ⟨y, hy⟩ := hR H enc w n cs' _ hd
      obtain ⟨_, g1, g2⟩ := World.cells?_some hcs
      exact ⟨y, cs', g1, g2, hy⟩)
    subst k1
    refine ⟨xs, some a, m, rfl, h1, h2, fun h => by (cases h), ?_⟩
    rcases Nat.eq_zero_or_pos xs.length with hz | hz
    · exact .inl (List.eq_nil_of_length_eq_zero hz)
    · right
      obtain ⟨b, o, sp⟩ := a
      obtain ⟨cs', g1, g2, _⟩ := k2 0 hz
      have g3 := g2 0 hpos
      have e0 : ((⟨b, o, sp⟩ : Addr).add (0 * size)).add 0 = ⟨b, o, sp⟩ := by simp [Addr.add]
      rw [e0] at g3
      obtain ⟨u, hu⟩ : ∃ u, cs'[0]? = some u := ⟨cs'[0]'(by omega), by simp [show 0 < cs'.length by omega]⟩
      rw [hu] at g3
      have hsp : sp = none := by
        cases sp with
        | none => rfl
        | some s =>
          unfold World.cell? at g3
          split at g3 <;> simp at g3
      subst hsp
      have hlt := World.block_lt_of_cell? w _ g3
      refine ⟨b, o, rfl, hlt, hlt, fun i hi => ?_⟩
      obtain ⟨cs'', f1, f2, f3⟩ := k2 i hi
      exact ⟨cs'', f1, fun j hj => by rw [← f2 j hj, add_of, add_of, Nat.add_assoc], f3⟩
theorem opens_bytes {P : Program} {t e : TypeId} (ht : P.underlying t = some (.slice e)) (he : P.underlying e = some (.int .u8)) (hc : P.cellsOf e = 1) : Opens P t inBytes := by
  intro H enc w fuel cs x h
  obtain ⟨zs, ao, cap, h1, h2, h3, h4, h5⟩ := opens_slice 1 ht hc (by decide) (opens_int he) H enc w fuel cs x h
  refine ⟨zs.map fun z => UInt8.ofNat z.toNat, ao, cap, by simpa using h1, by simpa using h2, h3, h4, ?_⟩
  rcases h5 with rfl | ⟨b, o, e, hb, hs, hcell⟩
  · exact .inl rfl
  · refine .inr ⟨b, o, e, hb, hs, fun j hj => ?_⟩
    rw [List.length_map] at hj
    obtain ⟨cs', g1, g2, g3, g4⟩ := hcell j hj
    subst g3
    have := g2 0 (by decide)
    rw [Nat.mul_one, Nat.add_zero] at this
    rw [this]
    have hw : 0 ≤ zs[j] ∧ zs[j] ≤ 255 := by simpa [Lit.wf, IntKind.min, IntKind.max, IntKind.signed, IntKind.bits] using g4
    have e2 : ((zs.map fun z => UInt8.ofNat z.toNat).getD j 0) = UInt8.ofNat zs[j].toNat := by simp [List.getD, hj]
    rw [e2]
    simp
    omega
theorem opens_fields {P : Program} {t : TypeId} {fs : Array Field} {H : Type} {enc : TypeId × Value → H} {w : World} {fuel : Nat} {cs : List Value} {x : DataW H × List MemPlace} (ht : P.underlying t = some (.struct fs))
    (h : DataW.trod enc P w 0 (fun _ => true) true fuel t cs = some x) :
    cs.length = P.cellsOf t ∧ ∀ (i : Nat) (f : Field), fs[i]? = some f → ∃ n y, DataW.trod enc P w 0 (fun _ => true) true n f.type ((cs.drop f.offset).take (P.cellsOf f.type)) = some y := by
  obtain ⟨xs, n, _, _, hl, hlen, hf⟩ := DataW.trod_struct ht h
  refine ⟨hl, fun i f hi => ?_⟩
  have := hf i f hi
  have hlt : i < xs.length := by rw [hlen]; exact (Array.getElem?_eq_some_iff.1 hi).1
  rw [List.getElem?_eq_getElem hlt] at this
  exact ⟨n, _, this⟩
def inInts (k : IntKind) (n : Nat) : InT (List Int) := fun l _ _ cs => cs = l.map (Value.int k) ∧ l.length = n ∧ ∀ i (h : i < l.length), (Lit.int k l[i]).wf = true
theorem opens_ints {P : Program} {t e : TypeId} {k : IntKind} {n : Nat} (ht : P.underlying t = some (.array n e)) (he : P.underlying e = some (.int k)) (hce : P.cellsOf e = 1) (hct : P.cellsOf t = n) : Opens P t (inInts k n) := by
  intro H enc w fuel cs x h
  obtain ⟨xs, m, _, _, hl, hlen, hf⟩ := DataW.trod_array ht h
  rw [hct] at hl
  rw [hce] at hf
  obtain ⟨zs, h1, h2⟩ := list_of (n := n) (p := fun i (z : Int) => cs[i]? = some (.int k z) ∧ (Lit.int k z).wf = true) (fun i hi => by
    have h3 := hf i hi
    rw [List.getElem?_eq_getElem (show i < xs.length by omega)] at h3
    obtain ⟨z, hz, _, hw⟩ := DataW.trod_int he h3
    refine ⟨z, ?_, hw⟩
    have hi' : i < cs.length := by omega
    rw [Nat.mul_one, List.drop_eq_getElem_cons hi'] at hz
    rw [List.getElem?_eq_getElem hi']
    rw [List.take_succ_cons] at hz
    exact congrArg some (List.cons.inj hz).1)
  refine ⟨zs, ?_, h1, fun i hi => (h2 i hi).2⟩
  apply List.ext_getElem?
  intro i
  by_cases hi : i < n
  · rw [(h2 i (by omega)).1]
    simp [show i < zs.length by omega]
  · rw [List.getElem?_eq_none (by omega), List.getElem?_eq_none (by simp; omega)]
def inBytesA (n : Nat) : InT (List UInt8) := fun l _ _ cs => cs = l.map byteV ∧ l.length = n
theorem opens_bytesA {P : Program} {t e : TypeId} {n : Nat} (ht : P.underlying t = some (.array n e)) (he : P.underlying e = some (.int .u8)) (hce : P.cellsOf e = 1) (hct : P.cellsOf t = n) : Opens P t (inBytesA n) := by
  intro H enc w fuel cs x h
  obtain ⟨zs, h1, h2, h3⟩ := opens_ints ht he hce hct H enc w fuel cs x h
  refine ⟨zs.map fun z => UInt8.ofNat z.toNat, ?_, by simpa using h2⟩
  rw [h1, List.map_map]
  apply List.ext_getElem?
  intro i
  by_cases hi : i < zs.length
  · have hw : 0 ≤ zs[i] ∧ zs[i] ≤ 255 := by simpa [Lit.wf, IntKind.min, IntKind.max, IntKind.signed, IntKind.bits] using h3 i hi
    simp [hi, byteV]
    omega
  · simp [hi]
end Go.Own
end
section
namespace Go.Proofs.YtmdphcebmgcdbaaGreat
open Go.RowKit Go.Own
namespace Byt
theorem infoU8 : (Tryz.prog.info? 5).map (fun i => (i.zero, i.size, i.bytes)) = some (some (.int .u8 0), 1, 1) := by kernel_rfl
theorem vat {w : World} {D : Nat → Prop} {ao : Option Addr} {l : List UInt8} (hV : View w D ao l) {k : Nat} (hk : k < l.length) :
    ∃ b o, ao = some ⟨b, o, none⟩ ∧ D b ∧ b < w.heap.size ∧ w.cell? ⟨b, o + k, none⟩ = some (.int .u8 ((l.getD k 0).toNat : Int)) := by
  rcases hV with h | ⟨b, o, e, h1, h2, h3⟩
  · rw [h] at hk; simp at hk
  · exact ⟨b, o, e, h1, h2, h3 k hk⟩
theorem vcells {w : World} {D : Nat → Prop} {ao : Option Addr} {bs : List UInt8} (h : View w D ao bs) : ∀ a, ao = some a → ∀ j u, (bs.map byteV)[j]? = some u → w.cell? (a.add j) = some u := by
  intro a ha j u hu
  have hj := (List.getElem?_eq_some_iff.1 hu).1
  rw [List.length_map] at hj
  rcases h with rfl | ⟨b, o, hab, _, _, hc⟩
  · simp at hj
  · rw [ha] at hab
    cases hab
    have e : (⟨b, o, none⟩ : Addr).add j = ⟨b, o + j, none⟩ := by unfold Addr.add; split <;> simp_all
    rw [e, hc j hj]
    rw [← hu]
    simp [byteV, hj]
theorem vlater {w w' : World} {D : Nat → Prop} {ao : Option Addr} {l : List UInt8} (h : View w D ao l) (g : Below w.heap.size w w') : View w' D ao l := by
  rcases h with h | ⟨b, o, e, hS, hb, hc⟩
  · exact .inl h
  · exact .inr ⟨b, o, e, hS, Nat.lt_of_lt_of_le hb g.size, fun j hj => (World.cell?_of_block (w := w) (g.block b hb)).trans (hc j hj)⟩
def AB (ao : Option Addr) (n cap : Nat) (l : List UInt8) : Asn := ARow 5 1 (.slice ao n cap) n (l.map byteV)
theorem AB.view {w : World} {S : Nat → Prop} {ao : Option Addr} {n cap : Nat} {l : List UInt8} (h : (AB ao n cap l).holds S w) : View w S ao l := Row.view h
theorem AB.len {w : World} {S : Nat → Prop} {ao : Option Addr} {n cap : Nat} {l : List UInt8} (h : (AB ao n cap l).holds S w) : l.length = n ∧ n ≤ cap ∧ cap ≤ maxLen ∧ (ao = none → n = 0 ∧ cap = 0) := by
  obtain ⟨ao', cap', hv, h1, h2, h3, _⟩ := Row.form h
  simp only [Value.slice.injEq, true_and] at hv
  obtain ⟨rfl, rfl⟩ := hv
  exact ⟨by have := h.own.1; simpa using this, h1, h2, fun e => ⟨(h3 e).1, (h3 e).2.1⟩⟩
section
variable {B : Nat} {w0 w : World} {Ps : List Asn} {ao : Option Addr} {n cap : Nat} {l : List UInt8}
theorem ab_len (H : St B w0 w Ps) (i : Nat) (hi : Ps[i]? = some (AB ao n cap l)) : l.length = n ∧ n ≤ cap ∧ cap ≤ maxLen ∧ (ao = none → n = 0 ∧ cap = 0) := by
  obtain ⟨S, hS, _⟩ := H.at i hi
  exact AB.len hS
theorem ab_view (H : St B w0 w Ps) (i : Nat) (hi : Ps[i]? = some (AB ao n cap l)) : View w (fun k => B ≤ k) ao l := by
  obtain ⟨S, hS, hB, _⟩ := H.at i hi
  exact (AB.view hS).mono hB
theorem ab_nil (H : St B w0 w Ps) : St B w0 w (AB none 0 0 [] :: Ps) :=
  H.new (S' := fun _ => False) (AB none 0 0 []) (Row.nil _ _ _) ((Step.refl (fun _ => False) w))
theorem ab_append (H : St B w0 w Ps) (i : Nat) (hi : Ps[i]? = some (AB ao n cap l)) (ty : TypeId) (bo : Option Addr) (m c : Nat) (news : List UInt8) (hno : bo = none → m = 0 ∧ c = 0) (hl : news.length = m)
    (hc : ∀ a, bo = some a → ∀ j u, (news.map byteV)[j]? = some u → w.cell? (a.add j) = some u) (b1 : n + m ≤ 1000000000) :
    ∃ ao' cap' w', (Builtin.append_ #[37, 37] ty #[.slice ao n cap, .slice bo m c]).run Tryz.prog w = .ok (.slice ao' (n + m) cap') w' ∧ St B w0 w' (Ps.set i (AB ao' (n + m) cap' (l ++ news))) := by
  obtain ⟨i0, hi0, hz0, hz1, hz2⟩ := info_parts infoU8
  obtain ⟨S, hS, _, put⟩ := H.at i hi
  obtain ⟨v', w', T', hr, hrow, hst⟩ := run_append_row (P := Tryz.prog) w 37 ty 5 i0 (.int .u8 0) 1 1 Tryz.underlying37 hi0 hz0 hz1 hz2 rfl (by decide) (.slice ao n cap) n (l.map byteV) hS bo m c (news.map byteV) hno (by rw [List.length_map, hl, Nat.mul_one]) hc (byteV_one _) (by unfold maxLen; omega) (by omega)
  obtain ⟨ao', cap', rfl, _⟩ := hrow.form
  rw [← List.map_append] at hrow
  exact ⟨ao', cap', w', hr, put T' w' (AB ao' (n + m) cap' (l ++ news)) hrow hst⟩
theorem wpList_ab_append {ops : Array Oper} {rest : List Oper} {o : Oper} {a : Act} {Q : Exit → Act → World → Prop} (hgd : o.guard = none) (s x : Operand)
    (ho : o.op = .call { callee := .builtin .append, args := #[s, x], argTypes := #[37, 37] }) (H : St B w0 w Ps) (i : Nat) (hi : Ps[i]? = some (AB ao n cap l)) (hs : a.eval s = .slice ao n cap)
    (bo : Option Addr) (m c : Nat) (news : List UInt8) (hx : a.eval x = .slice bo m c) (hno : bo = none → m = 0 ∧ c = 0) (hl : news.length = m)
    (hc : ∀ a, bo = some a → ∀ j u, (news.map byteV)[j]? = some u → w.cell? (a.add j) = some u) (b1 : n + m ≤ 1000000000)
    (h : ∀ ao' cap' w', St B w0 w' (Ps.set i (AB ao' (n + m) cap' (l ++ news))) → wpList Tryz.prog ops Q rest (a.put o.dst (.slice ao' (n + m) cap')) w') : wpList Tryz.prog ops Q (o :: rest) a w := by
  refine wpList_plain hgd fun K hK => ?_
  obtain ⟨ao', cap', w', hrun, h1⟩ := ab_append H i hi o.type bo m c news hno hl hc b1
  unfold Oper.wp
  simp [execOp, ho, resolve, invoke, builtin, hs, hx, hrun, Result.andThen]
  exact hK _ _ (h ao' cap' w' h1)
end
def A8 (b : Nat) (t : TypeId) (l : List UInt8) : Asn := AVals b t (l.map byteV)
section
variable {B : Nat} {w0 w : World} {Ps : List Asn} {b : Nat} {t : TypeId} {l : List UInt8}
theorem A8.cell (h : St B w0 w Ps) (i : Nat) (hi : Ps[i]? = some (A8 b t l)) (j : Nat) (hj : j < l.length) : w.cell? ⟨b, j, none⟩ = some (.int .u8 ((l.getD j 0).toNat : Int)) ∧ w.frozen? ⟨b, j, none⟩ = false :=
  h.cellV i hi j (by simp [byteV, hj])
theorem A8.store (h : St B w0 w Ps) (i : Nat) (hi : Ps[i]? = some (A8 b t l)) (j : Nat) (c : UInt8) : St B w0 (w.setCell ⟨b, j, none⟩ (.int .u8 (c.toNat : Int))) (Ps.set i (A8 b t (l.set j c))) := by
  have := h.storeV i hi j (byteV c)
  unfold A8
  rw [List.map_set]
  exact this
theorem A8.box (h : St B w0 w Ps) (t : TypeId) (l : List UInt8) : St B w0 (w.alloc (.cells (l.map byteV).toArray t)) (A8 w.heap.size t l :: Ps) := h.boxV t _
theorem A8.row (h : St B w0 w Ps) (i : Nat) (hi : Ps[i]? = some (A8 b t l)) : w.heap[b]? = some (.cells (l.map byteV).toArray t (0, 0)) := h.rowV i hi
theorem A8.there (h : St B w0 w Ps) (i : Nat) (hi : Ps[i]? = some (A8 b t l)) (r : List UInt8) (hl : r.length = l.length) : w.there b 0 (r.map byteV).toArray.size := h.thereV i hi (by simp [hl])
theorem A8.setAll (h : St B w0 w Ps) (i : Nat) (hi : Ps[i]? = some (A8 b t l)) (r : List UInt8) (hl : r.length = l.length) : St B w0 (w.setCells b 0 (r.map byteV).toArray.toList) (Ps.set i (A8 b t r)) := by
  have := Own.St.setAll i (r.map byteV) 0 w Ps (l.map byteV) h hi (by simp [hl])
  simpa [A8] using this
end
theorem one8 (l : List UInt8) : (l.map byteV).toArray.all (·.oneCell') = true := all_oneCell_toArray (fun v hv => byteV_one l v hv)
theorem wpList_want {P : Program} {ops : Array Oper} {rest : List Oper} {o : Oper} {a : Act} {w : World} {Q : Exit → Act → World → Prop} (hw : Region.wanted o (yielded ops a.tmps) = true) (h : o.wp P a w (fun a' w' => wpList P ops Q rest a' w') Q) : wpList P ops Q (o :: rest) a w := by
  unfold wpList
  rw [if_pos hw]
  exact .inl h
theorem wpList_str8 {ops : Array Oper} {rest : List Oper} {o : Oper} {a : Act} {w : World} {Q : Exit → Act → World → Prop} (hw : Region.wanted o (yielded ops a.tmps) = true) (x : Operand) (ho : o.op = .convert 37 9 x) (ao : Option Addr) (n cap : Nat) (hx : a.eval x = .slice ao n cap)
    (D : Nat → Prop) (l : List UInt8) (hV : View w D ao l) (hn : l.length = n) (h : wpList Tryz.prog ops Q rest (a.put o.dst (.string (strB l))) w) : wpList Tryz.prog ops Q (o :: rest) a w := by
  refine wpList_want hw ?_
  subst hn
  have hc := run_str (P := Tryz.prog) 37 5 9 Tryz.underlying37 Tryz.underlying5 Tryz.underlying9 hV cap
  unfold Oper.wp execOp
  simp only [ho, hx, Sem.run_bind, hc, Result.andThen_ok, Sem.run_pure]
  exact h
theorem vtake {w : World} {D : Nat → Prop} {ao : Option Addr} {l : List UInt8} (h : View w D ao l) (k : Nat) : View w D ao (l.take k) := by
  rcases h with rfl | ⟨b, o, e, hS, hb, hc⟩
  · exact .inl (by simp)
  · refine .inr ⟨b, o, e, hS, hb, fun j hj => ?_⟩
    have hj2 : j < l.length ∧ j < k := by rw [List.length_take] at hj; omega
    rw [hc j hj2.1]
    simp [List.getD, hj2.2]
theorem vdrop {w : World} {D : Nat → Prop} {b o : Nat} {l : List UInt8} (h : View w D (some ⟨b, o, none⟩) l) (k : Nat) : View w D (some ⟨b, o + k, none⟩) (l.drop k) := by
  rcases h with rfl | ⟨b', o', e, hS, hb, hc⟩
  · exact .inl (by simp)
  · cases e
    refine .inr ⟨b, o + k, rfl, hS, hb, fun j hj => ?_⟩
    rw [List.length_drop] at hj
    rw [Nat.add_assoc, hc (k + j) (by omega)]
    simp [List.getD, List.getElem?_drop]
theorem wpList_val {P : Program} {ops : Array Oper} {rest : List Oper} {o : Oper} {a : Act} {w : World} {Q : Exit → Act → World → Prop} (hw : Region.wanted o (yielded ops a.tmps) = true) {v : Value} (hrun : (execOp a.eval o).run P w = .ok (.value v) w) (h : wpList P ops Q rest (a.put o.dst v) w) : wpList P ops Q (o :: rest) a w := by
  refine wpList_want hw ?_
  unfold Oper.wp
  rw [hrun]
  exact h
structure Cut (ao : Option Addr) (l : List UInt8) (a' : Option Addr) (l' : List UInt8) (m' c' : Nat) : Prop where
  view : ∀ w D, View w D ao l → View w D a' l'
  len : l'.length = m'
  cap : m' ≤ c' ∧ c' ≤ maxLen
  none : a' = none → c' = 0
section
variable {ao : Option Addr} {l : List UInt8} {m cap : Nat}
theorem cutTo (k : Nat) (hl : l.length = m) (hk : k ≤ m) (hm : m ≤ cap) (hc : cap ≤ maxLen) (hno : ao = none → cap = 0) :
    (∀ (o : Oper) (x y : Operand), o.op = .slice 37 x none (some y) none → ∀ (ρ : Operand → Value) w, ρ x = .slice ao m cap → ρ y = .int .i64 (k : Int) → (execOp ρ o).run Tryz.prog w = .ok (.value (.slice ao k cap)) w) ∧ Cut ao l ao (l.take k) k cap := by
  refine ⟨fun o x y ho ρ w h0 h1 => ?_, fun w D h => vtake h k, by rw [List.length_take]; omega, ⟨by omega, hc⟩, hno⟩
  unfold maxLen at hc
  cases ao with
  | none =>
    obtain rfl := hno rfl
    obtain rfl : m = 0 := by omega
    obtain rfl : k = 0 := by omega
    simp [execOp, ho, h0, h1, go_sem]
  | some a =>
    simp [execOp, ho, h0, h1, go_sem]
    omega
theorem cutFrom (k : Nat) (hl : l.length = m) (hk : k ≤ m) (hm : m ≤ cap) (hc : cap ≤ maxLen) (hno : ao = none → cap = 0) :
    ∃ a' c', (∀ (o : Oper) (x y : Operand), o.op = .slice 37 x (some y) none none → ∀ (ρ : Operand → Value) w, ρ x = .slice ao m cap → ρ y = .int .i64 (k : Int) → (execOp ρ o).run Tryz.prog w = .ok (.value (.slice a' (m - k) c')) w) ∧ Cut ao l a' (l.drop k) (m - k) c' := by
  have hc0 := hc
  unfold maxLen at hc
  cases ao with
  | none =>
    obtain rfl := hno rfl
    obtain rfl : m = 0 := by omega
    obtain rfl : k = 0 := by omega
    exact ⟨none, 0, fun o x y ho ρ w h0 h1 => by simp [execOp, ho, h0, h1, go_sem], fun w D h => by simpa using h, by simp [hl], ⟨Nat.le_refl _, Nat.zero_le _⟩, fun _ => rfl⟩
  | some a =>
    by_cases hck : cap = k
    · refine ⟨some a, 0, fun o x y ho ρ w h0 h1 => ?_, fun w D h => .inl (List.drop_eq_nil_of_le (by omega)), by rw [List.length_drop, hl], ⟨by omega, Nat.zero_le _⟩, fun h => by cases h⟩
      simp [execOp, ho, h0, h1, go_sem]
      rw [if_pos hk, if_pos hck, hck]; simp
    · refine ⟨some (a.add k), cap - k, fun o x y ho ρ w h0 h1 => ?_, fun w D h => ?_, by rw [List.length_drop, hl], ⟨by omega, by omega⟩, fun h => by cases h⟩
      · simp [execOp, ho, h0, h1, go_sem]
        rw [if_pos hk, if_neg hck]
      · rcases h with h | ⟨b, o, e, h1, h2, h3⟩
        · exact .inl (by rw [h, List.drop_nil])
        · obtain rfl : a = ⟨b, o, none⟩ := by simpa using e
          rw [add_of]
          exact vdrop (.inr ⟨b, o, rfl, h1, h2, h3⟩) k
end
def lenV : Value → Nat
  | .slice _ n _ => n
  | _ => 0
end Byt
end Go.Proofs.YtmdphcebmgcdbaaGreat
end
section
namespace Go.Proofs.YtmdphcebmgcdbaaGreat
open Go.RowKit Go.Own
namespace Byt
structure Given (w : World) (ao : Option Addr) (len cap : Nat) (l : List UInt8) : Prop where
  view : View w (fun k => k < w.heap.size) ao l
  size : l.length = len
  room : len ≤ cap ∧ cap ≤ maxLen
  nil : ao = none → cap = 0
theorem Given.later {w w' : World} {ao : Option Addr} {len cap : Nat} {l : List UInt8} (h : Given w ao len cap l) (g : Below w.heap.size w w') : Given w' ao len cap l :=
  ⟨(View.below h.view g).mono (fun k hk => by have := g.size; omega), h.size, h.room, h.nil⟩
theorem i64_in {a : Int} (h : (Lit.int .i64 a).wf = true) : -9223372036854775808 ≤ a ∧ a ≤ 9223372036854775807 := by
  simp [Lit.wf, IntKind.min, IntKind.max, IntKind.signed, IntKind.bits] at h
  omega
def ones (c : UInt8) (N k : Nat) : List UInt8 := List.replicate k c ++ List.replicate (N - k) 0
theorem ones_zero (c : UInt8) (N : Nat) : ones c N 0 = List.replicate N 0 := by simp [ones]
theorem ones_all (c : UInt8) (N : Nat) : ones c N N = List.replicate N c := by simp [ones]
theorem ones_set (c : UInt8) (N k : Nat) (h : k < N) : (ones c N k).set k c = ones c N (k + 1) := by
  unfold ones
  obtain ⟨r, hr⟩ : ∃ r, N - k = r + 1 := ⟨N - k - 1, by omega⟩
  rw [hr, show N - (k + 1) = r by omega, List.replicate_succ, List.replicate_succ']
  simp
theorem u8_byte {a : Int} (h : (Lit.int .u8 a).wf = true) : ∃ c : UInt8, a = (c.toNat : Int) := by
  have h' : 0 ≤ a ∧ a ≤ 255 := by simpa [Lit.wf, IntKind.min, IntKind.max, IntKind.signed, IntKind.bits] using h
  exact ⟨UInt8.ofNat a.toNat, by simp; omega⟩
theorem given_own {B : Nat} {w0 w : World} {Ps : List Asn} {ao : Option Addr} {n cap : Nat} {l : List UInt8} (H : St B w0 w Ps) (i : Nat) (hi : Ps[i]? = some (AB ao n cap l)) : Given w ao n cap l := by
  obtain ⟨h1, h2, h3, h4⟩ := ab_len H i hi
  exact ⟨(ab_view H i hi).live.mono (fun k hk => hk.2), h1, ⟨h2, h3⟩, fun h => (h4 h).2⟩
theorem given_nil {w : World} {ao : Option Addr} {n cap : Nat} {l : List UInt8} (h : Given w ao n cap l) : ao = none → n = 0 ∧ cap = 0 := fun e => ⟨by have := h.room.1; rw [h.nil e] at this; omega, h.nil e⟩
theorem vcell {w : World} {D : Nat → Prop} {b o : Nat} {l : List UInt8} (h : View w D (some ⟨b, o, none⟩) l) {k : Nat} (hk : k < l.length) : w.cell? ⟨b, o + k, none⟩ = some (.int .u8 ((l.getD k 0).toNat : Int)) := by
  obtain ⟨b', o', e, _, _, hc⟩ := vat h hk
  cases e
  exact hc
theorem in_given {l : List UInt8} {w : World} {ao : Option Addr} {n cap : Nat} (h : inBytes l w.heap.size w [.slice ao n cap]) : Given w ao n cap l := by
  obtain ⟨ao', cap', h1, h2, h3, h4, h5⟩ := h
  simp only [List.cons.injEq, Value.slice.injEq, and_true] at h1
  obtain ⟨rfl, rfl, rfl⟩ := h1
  exact ⟨h5, rfl, ⟨h2, h3⟩, h4⟩
theorem given_take {w : World} {ao : Option Addr} {n cap : Nat} {l : List UInt8} (h : Given w ao n cap l) (m : Nat) (hm : m ≤ n) : Given w ao m cap (l.take m) :=
  ⟨vtake h.view m, by rw [List.length_take, h.size]; omega, ⟨Nat.le_trans hm h.room.1, h.room.2⟩, h.nil⟩
theorem cellLater {W w : World} {a : Addr} {v : Value} (h : W.cell? a = some v) (hb : Below W.heap.size W w) : w.cell? a = some v := by
  rw [hb.cell (World.block_lt_of_cell? W a h)]; exact h
end Byt
end Go.Proofs.YtmdphcebmgcdbaaGreat
end
section
namespace Go.Own
open Go.RowKit
theorem Apart.iff {w : World} : ∀ {Ps : List Asn} {S T : Nat → Prop}, Apart w Ps S → (∀ k, S k ↔ T k) → Apart w Ps T
  | [], _, _, h, e => fun k hk => h k ((e k).2 hk)
  | _ :: _, _, _, ⟨S1, S2, h1, h2, h3, h4⟩, e => ⟨S1, S2, h1, h2, h3, fun k => (e k).symm.trans (h4 k)⟩
theorem Apart.append {w : World} : ∀ {Ps Qs : List Asn} {S T : Nat → Prop}, Apart w Ps S → Apart w Qs T → Dis S T → Apart w (Ps ++ Qs) (fun k => S k ∨ T k)
  | [], Qs, S, T, h, g, _ => g.iff fun k => ⟨.inr, fun x => x.elim (fun y => (h k y).elim) id⟩
  | P :: Ps, Qs, S, T, ⟨S1, S2, h1, h2, h3, h4⟩, g, hd => ⟨S1, fun k => S2 k ∨ T k, h1, Apart.append h2 g (fun k hk => hd k ((h4 k).2 (.inr hk))), fun k hk hk' => hk'.elim (h3 k hk) (hd k ((h4 k).2 (.inl hk))), fun k => by show (S k ∨ T k) ↔ (S1 k ∨ S2 k ∨ T k); rw [h4 k, or_assoc]⟩
theorem Apart.split {w : World} : ∀ {Ps Qs : List Asn} {S : Nat → Prop}, Apart w (Ps ++ Qs) S → ∃ S1 S2, Apart w Ps S1 ∧ Apart w Qs S2 ∧ Dis S1 S2 ∧ ∀ k, S k ↔ (S1 k ∨ S2 k)
  | [], Qs, S, h => ⟨fun _ => False, S, fun _ h => h, h, fun _ h => h.elim, fun k => ⟨.inr, fun x => x.elim (fun y => y.elim) id⟩⟩
  | P :: Ps, Qs, S, ⟨S1, S2, h1, h2, h3, h4⟩ => by
    obtain ⟨T1, T2, g1, g2, g3, g4⟩ := Apart.split h2
    exact ⟨fun k => S1 k ∨ T1 k, T2, ⟨S1, T1, h1, g1, fun k hk hk' => h3 k hk ((g4 k).2 (.inl hk')), fun k => Iff.rfl⟩, g2, fun k hk hk' => hk.elim (fun x => h3 k x ((g4 k).2 (.inr hk'))) (fun x => g3 k x hk'), fun k => by rw [h4 k, g4 k, or_assoc]⟩
theorem erase_perm {α : Type _} : ∀ (l : List α) (i : Nat) (h : i < l.length), (l[i] :: l.eraseIdx i).Perm l
  | [], i, h => by simp at h
  | x :: l, 0, _ => List.Perm.refl _
  | x :: l, i + 1, h => by
    have h' : i < l.length := by simpa using h
    exact ((List.Perm.swap x l[i] (l.eraseIdx i))).trans ((erase_perm l i h').cons x)
theorem Apart.perm {w : World} {Ps Qs : List Asn} (h : Ps.Perm Qs) : ∀ {S : Nat → Prop}, Apart w Ps S → Apart w Qs S := by
  induction h with
  | nil => exact fun h => h
  | cons x _ ih => rintro S ⟨S1, S2, h1, h2, h3, h4⟩; exact ⟨S1, S2, h1, ih h2, h3, h4⟩
  | swap x y l =>
    rintro S ⟨S1, S2, h1, ⟨T1, T2, g1, g2, g3, g4⟩, h3, h4⟩
    refine ⟨T1, fun k => S1 k ∨ T2 k, g1, ⟨S1, T2, h1, g2, fun k a b => h3 k a ((g4 k).2 (.inr b)), fun k => Iff.rfl⟩, fun k a b => b.elim (fun c => h3 k c ((g4 k).2 (.inl a))) (g3 k a), fun k => ?_⟩
    rw [h4 k, g4 k]
    constructor
    · rintro (a | a | a)
      · exact .inr (.inl a)
      · exact .inl a
      · exact .inr (.inr a)
    · rintro (a | a | a)
      · exact .inr (.inl a)
      · exact .inl a
      · exact .inr (.inr a)
  | trans _ _ ih1 ih2 => exact fun h => ih2 (ih1 h)
def AJoin (Qs : List Asn) : Asn := ⟨fun S w => Apart w Qs S, fun h g hd => h.keep g hd, fun h => h.lt⟩
section
variable {B : Nat} {w0 w w' : World} {Ps Qs : List Asn}
theorem St.perm (h : St B w0 w Ps) (e : Ps.Perm Qs) : St B w0 w Qs := by
  obtain ⟨hb, hs, S, ha, hB⟩ := h
  exact ⟨hb, hs, S, ha.perm e, hB⟩
theorem St.openJ (h : St B w0 w (AJoin Qs :: Ps)) : St B w0 w (Qs ++ Ps) := by
  obtain ⟨hb, hs, S, ⟨S1, S2, h1, h2, h3, h4⟩, hB⟩ := h
  exact ⟨hb, hs, _, Apart.append h1 h2 h3, fun k hk => hB k ((h4 k).2 hk)⟩
theorem St.closeJ (h : St B w0 w (Qs ++ Ps)) : St B w0 w (AJoin Qs :: Ps) := by
  obtain ⟨hb, hs, S, ha, hB⟩ := h
  obtain ⟨S1, S2, h1, h2, h3, h4⟩ := ha.split
  exact ⟨hb, hs, S, ⟨S1, S2, h1, h2, h3, h4⟩, hB⟩
theorem St.front (h : St B w0 w Ps) (i : Nat) {P : Asn} (hi : Ps[i]? = some P) : St B w0 w (P :: Ps.eraseIdx i) := by
  obtain ⟨hl, rfl⟩ := List.getElem?_eq_some_iff.1 hi
  exact h.perm (erase_perm Ps i hl).symm
theorem St.back {Q : Asn} (i : Nat) (hi : i < Ps.length) (h : St B w0 w (Q :: Ps.eraseIdx i)) : St B w0 w (Ps.set i Q) := by
  have hl : i < (Ps.set i Q).length := by simpa using hi
  have e := erase_perm (Ps.set i Q) i hl
  rw [List.getElem_set_self, List.eraseIdx_set_eq] at e
  exact h.perm e
end
end Go.Own
end
section
namespace Go.Own
open Go.RowKit
structure Ty where
  holds : Value → World → Prop
  keep : ∀ {v : Value} {w w' : World}, holds v w → Below w.heap.size w w' → holds v w'
def Ty.is (c : Value) : Ty := ⟨fun v _ => v = c, fun h _ => h⟩
abbrev Lx := List (Tmp × Ty)
def slotIs (I : Lx) (a : Act) (t : Tmp) (v : Value) (w : World) : Prop :=
  match I.lookup t with
  | some R => R.holds v w
  | none => v = a.tmps.getD t undef
section
variable {P : Program} {ops : Array Oper} {C : World → Prop}
theorem slotIs.keep {I : Lx} {a : Act} {t : Tmp} {v : Value} {w w' : World} (h : slotIs I a t v w) (g : Below w.heap.size w w') : slotIs I a t v w' := by
  unfold slotIs at *
  split at h
  · rename_i R e; exact R.keep h g
  · exact h
def Gives (P : Program) (ops : Array Oper) (C : World → Prop) (o : Oper) (I : Lx) (a : Act) (R : Ty) : Prop :=
  ∀ a1 w, C w → (∀ t ∈ o.looksAt ops, slotIs I a t (a1.tmps.getD t undef) w) → ∀ (K : Act → World → Prop) (Q : Exit → Act → World → Prop),
    (∀ v w', R.holds v w' → Below w.heap.size w w' → K (a1.put o.dst v) w') → o.wp P a1 w K Q
def guardKnown (ops : Array Oper) (o : Oper) (I : Lx) : Bool :=
  match o.guard with
  | none => true
  | some (g, _) => match (ops[g]?).bind (·.dst) with
    | some d => (I.lookup d).isNone
    | none => true
inductive StepT (P : Program) (ops : Array Oper) (C : World → Prop) (o : Oper) : Lx → Act → Lx → Act → Prop
  | skip {I a} (hg : guardKnown ops o I = true) (hw : Region.wanted o (yielded ops a.tmps) = false) : StepT P ops C o I a I (a.put o.dst undef)
  | val {I a} (v : Value) (hg : guardKnown ops o I = true) (hw : Region.wanted o (yielded ops a.tmps) = true) (h : Gives P ops C o I a (Ty.is v)) : StepT P ops C o I a I (a.put o.dst v)
  | ty {I a} (d : Tmp) (R : Ty) (hd : o.dst = some d) (hg : guardKnown ops o I = true) (hw : Region.wanted o (yielded ops a.tmps) = true) (h : Gives P ops C o I a R) : StepT P ops C o I a ((d, R) :: I) a
structure Rep (C : World → Prop) (I : Lx) (a a1 : Act) (w1 : World) : Prop where
  world : C w1
  defers : a1.defers = a.defers
  size : a1.tmps.size = a.tmps.size
  slot : ∀ t, slotIs I a t (a1.tmps.getD t undef) w1
def wpT (P : Program) (ops : Array Oper) (C : World → Prop) (Q : Act → World → Prop) : List Oper → Lx → Act → Prop
  | [], I, a => ∀ a1 w1, Rep C I a a1 w1 → Q a1 w1
  | o :: rest, I, a => ∃ I' a', StepT P ops C o I a I' a' ∧ wpT P ops C Q rest I' a'
theorem wpT_path {Q : Act → World → Prop} : ∀ (l : List Oper) (I : Lx) (a : Act), wpT P ops C Q l I a →
    ∃ S : Nat → Lx × Act, S 0 = (I, a) ∧ (∀ k o, l[k]? = some o → StepT P ops C o (S k).1 (S k).2 (S (k + 1)).1 (S (k + 1)).2) ∧ ∀ a1 w1, Rep C (S l.length).1 (S l.length).2 a1 w1 → Q a1 w1
  | [], I, a, h => ⟨fun _ => (I, a), rfl, fun k o hk => by simp at hk, h⟩
  | o :: rest, I, a, ⟨I', a', h1, h2⟩ => by
    obtain ⟨S, g0, g1, g2⟩ := wpT_path rest I' a' h2
    refine ⟨fun k => match k with | 0 => (I, a) | k + 1 => S k, rfl, fun k o' hk => ?_, fun a1 w1 hr => g2 a1 w1 (by simpa using hr)⟩
    cases k with
    | zero =>
      obtain rfl : o = o' := by simpa using hk
      show StepT P ops C o I a (S 0).1 (S 0).2
      rw [g0]; exact h1
    | succ k => exact g1 k o' (by simpa using hk)
theorem put_getD (a : Act) (d t : Tmp) (v : Value) (hd : d < a.tmps.size) : (a.put (some d) v).tmps.getD t undef = if t = d then v else a.tmps.getD t undef := by
  show (a.tmps.setIfInBounds d v).getD t undef = _
  by_cases h : t = d
  · subst h; simp [hd]
  · simp [h, Array.getElem?_setIfInBounds_ne (Ne.symm h)]
theorem put_size (a : Act) (d : Option Tmp) (v : Value) : (a.put d v).tmps.size = a.tmps.size := by cases d <;> simp [Act.put]
theorem put_defers (a : Act) (d : Option Tmp) (v : Value) : (a.put d v).defers = a.defers := by cases d <;> rfl
theorem StepT.size {o : Oper} {I I' : Lx} {a a' : Act} (h : StepT P ops C o I a I' a') : a'.tmps.size = a.tmps.size ∧ a'.defers = a.defers := by
  cases h
  · exact ⟨put_size _ _ _, put_defers _ _ _⟩
  · exact ⟨put_size _ _ _, put_defers _ _ _⟩
  · exact ⟨rfl, rfl⟩
theorem StepT.other {o : Oper} {I I' : Lx} {a a' : Act} (h : StepT P ops C o I a I' a') {t : Tmp} (hin : ∀ d, o.dst = some d → d < a.tmps.size) (ht : o.dst ≠ some t) (v : Value) (w : World) : slotIs I' a' t v w ↔ slotIs I a t v w := by
  have hput : ∀ u, (a.put o.dst u).tmps.getD t undef = a.tmps.getD t undef := by
    intro u
    cases hd : o.dst with
    | none => rfl
    | some d => rw [put_getD a d t u (hin d hd), if_neg (fun e => ht (by rw [hd, e]))]
  cases h
  · unfold slotIs; rw [hput]
  · unfold slotIs; rw [hput]
  · rename_i d R hd hg hw h
    unfold slotIs
    rw [List.lookup_cons]
    have : (t == d) = false := by simp; intro e; exact ht (by rw [hd, e])
    simp only [this]
def dstsB (l : List Oper) (n : Nat) : Bool := (l.filterMap (·.dst)).Nodup && (l.filterMap (·.dst)).all (· < n)
theorem dsts_lt {l : List Oper} {n : Nat} (h : dstsB l n = true) {k : Nat} {o : Oper} {d : Tmp} (hk : l[k]? = some o) (hd : o.dst = some d) : d < n := by
  simp only [dstsB, Bool.and_eq_true, List.all_eq_true, decide_eq_true_eq] at h
  exact h.2 d (List.mem_filterMap.2 ⟨o, List.mem_of_getElem? hk, hd⟩)
theorem dsts_one {n : Nat} : ∀ {l : List Oper}, dstsB l n = true → ∀ {j k : Nat} {x y : Oper} {d : Tmp}, l[j]? = some x → l[k]? = some y → x.dst = some d → y.dst = some d → j = k
  | [], _, j, _, _, _, _, hj, _, _, _ => by simp at hj
  | o :: l, h, j, k, x, y, d, hj, hk, hx, hy => by
    have hrest : dstsB l n = true := by
      simp only [dstsB, Bool.and_eq_true, decide_eq_true_eq] at h ⊢
      cases ho : o.dst <;> simp_all
    have hnot : ∀ (i : Nat) (z : Oper), l[i]? = some z → o.dst = some d → z.dst ≠ some d := by
      intro i z hi hod hz
      simp only [dstsB, Bool.and_eq_true, decide_eq_true_eq, List.filterMap_cons, hod, List.nodup_cons] at h
      exact h.1.1 (List.mem_filterMap.2 ⟨z, List.mem_of_getElem? hi, hz⟩)
    cases j with
    | zero =>
      cases k with
      | zero => rfl
      | succ k =>
        obtain rfl : o = x := by simpa using hj
        exact absurd hy (hnot k y (by simpa using hk) hx)
    | succ j =>
      cases k with
      | zero =>
        obtain rfl : o = y := by simpa using hk
        exact absurd hx (hnot j x (by simpa using hj) hy)
      | succ k => rw [dsts_one hrest (j := j) (k := k) (by simpa using hj) (by simpa using hk) hx hy]
theorem eval_looks {o : Oper} {a a1 : Act} (h : ∀ t ∈ o.looksAt ops, a1.tmps.getD t undef = a.tmps.getD t undef) : ∀ x ∈ o.op.operands, a1.eval x = a.eval x := by
  intro x hx
  cases x with
  | tmp t => exact h t (List.mem_append_left _ (List.mem_filterMap.2 ⟨.tmp t, by simpa using hx, rfl⟩))
  | _ => rfl
theorem wanted_looks {o : Oper} {I : Lx} {a a1 : Act} {w : World} (hg : guardKnown ops o I = true) (hs : a1.tmps.size = a.tmps.size) (h : ∀ t ∈ o.looksAt ops, slotIs I a t (a1.tmps.getD t undef) w) :
    Region.wanted o (yielded ops a1.tmps) = Region.wanted o (yielded ops a.tmps) := by
  unfold Region.wanted
  cases hgd : o.guard with
  | none => rfl
  | some gw =>
    obtain ⟨g, want⟩ := gw
    have : yielded ops a1.tmps g = yielded ops a.tmps g := by
      unfold yielded
      cases hd : (ops[g]?).bind (·.dst) with
      | none => rfl
      | some d =>
        have hm : d ∈ o.looksAt ops := by
          unfold Oper.looksAt
          refine List.mem_append_right _ ?_
          rw [hgd]
          simp [hd]
        have h1 := h d hm
        unfold slotIs at h1
        have hn : I.lookup d = none := by simpa [guardKnown, hgd, hd] using hg
        rw [hn] at h1
        simp only at h1
        simp only [Option.bind_some]
        have : a1.tmps[d]? = a.tmps[d]? := by
          by_cases hlt : d < a.tmps.size
          · have hlt1 : d < a1.tmps.size := hs ▸ hlt
            simp only [Array.getD, hlt, hlt1, dif_pos] at h1
            rw [Array.getElem?_eq_getElem hlt, Array.getElem?_eq_getElem hlt1]
            exact congrArg some h1
          · rw [Array.getElem?_eq_none (Nat.le_of_not_lt hlt), Array.getElem?_eq_none (Nat.le_of_not_lt (hs ▸ hlt))]
        rw [this]
    simp only [this]
theorem lexFrom_free {md : Region.Mode} : ∀ (fuel k : Nat) (listed : Array Bool), Region.lexFrom md ops fuel k listed = true → k + fuel = ops.size → (∀ i, listed.getD i true = decide (i < k ∨ ops.size ≤ i)) → listed.size = ops.size →
    ∀ i oi, k ≤ i → ops[i]? = some oi → (∀ e ∈ oi.after, Region.binds md e = true → e.on < i) ∧ ∀ j oj, i < j → ops[j]? = some oj → (∃ e ∈ oj.after, Region.binds md e = true ∧ e.on = i) ∨ oi.apart ops oj = true
  | 0, k, listed, _, hk, _, _, i, oi, hi, ho => by
    have := (Array.getElem?_eq_some_iff.1 ho).1
    omega
  | fuel + 1, k, listed, h, hk, hl, hsz, i, oi, hi, ho => by
    simp only [Region.lexFrom, Bool.and_eq_true] at h
    obtain ⟨⟨hr, hf⟩, hB⟩ := h
    by_cases hik : i = k
    · subst hik
      refine ⟨fun e he hb => ?_, fun j oj hj hoj => ?_⟩
      · have hr' : i ∈ Region.ready md ops listed := by simpa using hr
        obtain ⟨_, o', ho', hall⟩ := mem_ready.1 hr'
        obtain rfl : oi = o' := by rw [ho] at ho'; simpa using ho'
        have h1 := hall e he hb
        rcases Nat.lt_or_ge e.on i with h2 | h2
        · exact h2
        · exfalso
          rcases Nat.lt_or_ge e.on ops.size with h3 | h3
          · have h4 := hl e.on
            have h5 : e.on < listed.size := by omega
            simp [h5] at h4 h1
            rw [h1] at h4
            simp at h4
            omega
          · simp [Array.getElem?_eq_none (show listed.size ≤ e.on by omega)] at h1
      · by_cases hw : ∃ e ∈ oj.after, Region.binds md e = true ∧ e.on = i
        · exact .inl hw
        · refine .inr (Region.free_spec ho hf j oj hoj (by omega) ?_ (fun e he hb heq => hw ⟨e, he, hb, heq⟩))
          rw [hl]
          have := (Array.getElem?_eq_some_iff.1 hoj).1
          simp; omega
    · refine lexFrom_free fuel (k + 1) _ hB (by omega) (fun j => ?_) (by simpa using hsz) i oi (by omega) ho
      by_cases hjk : j = k
      · subst hjk
        have : j < listed.size := by omega
        simp [this]
      · rw [getD_set_ne true (Ne.symm hjk), hl]
        exact decide_eq_decide.2 (by omega)
structure RunInv (md : Region.Mode) (n : Nat) (ops : Array Oper) (C : World → Prop) (a0 : Act) (S : Nat → Lx × Act) (listed : Array Bool) (a1 : Act) (w1 : World) : Prop where
  world : C w1
  defers : a1.defers = a0.defers
  size : a1.tmps.size = a0.tmps.size
  lsize : listed.size = ops.size
  closed : ∀ (j : Nat) (oj : Oper), ops[j]? = some oj → listed.getD j false = true → ∀ e ∈ oj.after, Region.binds md e = true → listed.getD e.on false = true
  tail : ∀ j, n ≤ j → j < ops.size → listed.getD j true = false
  done : ∀ (j : Nat) (oj : Oper) (d : Tmp), ops[j]? = some oj → listed.getD j false = true → oj.dst = some d → slotIs (S (j + 1)).1 (S (j + 1)).2 d (a1.tmps.getD d undef) w1
  rest : ∀ t, (∀ (j : Nat) (oj : Oper), ops[j]? = some oj → listed.getD j false = true → oj.dst ≠ some t) → a1.tmps.getD t undef = a0.tmps.getD t undef
theorem path_sizes {a0 : Act} {S : Nat → Lx × Act} (hS0 : S 0 = ([], a0)) {n : Nat} (hn : n ≤ ops.size) (hst : ∀ (k : Nat) (o : Oper), k < n → ops[k]? = some o → StepT P ops C o (S k).1 (S k).2 (S (k + 1)).1 (S (k + 1)).2) :
    ∀ k, k ≤ n → (S k).2.tmps.size = a0.tmps.size ∧ (S k).2.defers = a0.defers
  | 0, _ => by rw [hS0]; exact ⟨rfl, rfl⟩
  | k + 1, hk => by
    have h := path_sizes hS0 hn hst k (by omega)
    have g := (hst k ops[k] (by omega) (Array.getElem?_eq_getElem (by omega))).size
    exact ⟨g.1.trans h.1, g.2.trans h.2⟩
theorem path_other {a0 : Act} {S : Nat → Lx × Act} (hS0 : S 0 = ([], a0)) {n : Nat} (hn : n ≤ ops.size) (hst : ∀ (k : Nat) (o : Oper), k < n → ops[k]? = some o → StepT P ops C o (S k).1 (S k).2 (S (k + 1)).1 (S (k + 1)).2)
    (hin : ∀ (k : Nat) (o : Oper) (d : Tmp), ops[k]? = some o → o.dst = some d → d < a0.tmps.size) {t : Tmp} (v : Value) (w : World) (m : Nat) :
    ∀ q, m + q ≤ n → (∀ j oj, m ≤ j → j < m + q → ops[j]? = some oj → oj.dst ≠ some t) → (slotIs (S (m + q)).1 (S (m + q)).2 t v w ↔ slotIs (S m).1 (S m).2 t v w)
  | 0, _, _ => Iff.rfl
  | q + 1, hq, hno => by
    have ih := path_other hS0 hn hst hin (t := t) v w m q (by omega) (fun j oj h1 h2 => hno j oj h1 (by omega))
    have hk : ops[m + q]? = some ops[m + q] := Array.getElem?_eq_getElem (by omega)
    have hs := path_sizes hS0 hn hst (m + q) (by omega)
    exact ((hst (m + q) _ (by omega) hk).other (fun d hd => by rw [hs.1]; exact hin _ _ d hk hd) (hno (m + q) _ (by omega) (by omega) hk) v w).trans ih
theorem slot0 {a0 : Act} {S : Nat → Lx × Act} (hS0 : S 0 = ([], a0)) (t : Tmp) (v : Value) (w : World) : slotIs (S 0).1 (S 0).2 t v w ↔ v = a0.tmps.getD t undef := by
  rw [hS0]; exact Iff.rfl
theorem path_keys {a0 : Act} {S : Nat → Lx × Act} (hS0 : S 0 = ([], a0)) {n : Nat} (hn : n ≤ ops.size) (hst : ∀ (k : Nat) (o : Oper), k < n → ops[k]? = some o → StepT P ops C o (S k).1 (S k).2 (S (k + 1)).1 (S (k + 1)).2) {t : Tmp} :
    ∀ k, k ≤ n → (∀ (j : Nat) (oj : Oper), j < k → ops[j]? = some oj → oj.dst ≠ some t) → (S k).1.lookup t = none
  | 0, _, _ => by rw [hS0]; rfl
  | k + 1, hk, hno => by
    have ih := path_keys hS0 hn hst k (by omega) (fun j oj h1 h2 => hno j oj (by omega) h2)
    have hs := hst k ops[k] (by omega) (Array.getElem?_eq_getElem (by omega))
    have hd := hno k ops[k] (by omega) (Array.getElem?_eq_getElem (by omega))
    generalize S k = si at *
    generalize S (k + 1) = sj at *
    obtain ⟨Ii, ai⟩ := si
    obtain ⟨Ij, aj⟩ := sj
    cases hs with
    | skip => exact ih
    | val => exact ih
    | ty d R hdd =>
      show List.lookup t ((d, R) :: Ii) = none
      rw [List.lookup_cons]
      have : (t == d) = false := by simp; intro e; exact hd (by rw [hdd, e])
      simp only [this]
      exact ih
theorem wpAny_lax {md : Region.Mode} {Q' : Exit → Act → World → Prop} (hC : ∀ w w', C w → Below w.heap.size w w' → C w') {a0 : Act} {S : Nat → Lx × Act} (hS0 : S 0 = ([], a0))
    {n : Nat} (hn : n ≤ ops.size) (hst : ∀ (k : Nat) (o : Oper), k < n → ops[k]? = some o → StepT P ops C o (S k).1 (S k).2 (S (k + 1)).1 (S (k + 1)).2)
    (hin : ∀ (k : Nat) (o : Oper) (d : Tmp), ops[k]? = some o → o.dst = some d → d < a0.tmps.size)
    (hone : ∀ (j k : Nat) (x y : Oper) (d : Tmp), ops[j]? = some x → ops[k]? = some y → x.dst = some d → y.dst = some d → j = k)
    (hlex : ∀ (i : Nat) (oi : Oper), ops[i]? = some oi → (∀ e ∈ oi.after, Region.binds md e = true → e.on < i) ∧ ∀ j oj, i < j → ops[j]? = some oj → (∃ e ∈ oj.after, Region.binds md e = true ∧ e.on = i) ∨ oi.apart ops oj = true)
    (hwait : ∀ (i : Nat) (oi : Oper), n ≤ i → ops[i]? = some oi → ∀ j, j < n → ∃ e ∈ oi.after, Region.binds md e = true ∧ e.on = j)
    (hfin : ∀ (fuel : Nat) (listed : Array Bool) (a1 : Act) (w1 : World), (∃ s, (List.range ops.size).filter (fun i => !listed.getD i true) = s ∧ s.length = fuel) → listed.size = ops.size → (∀ i, i < n → listed.getD i true = true) → (∀ j, n ≤ j → j < ops.size → listed.getD j true = false) → Rep C (S n).1 (S n).2 a1 w1 → wpAny P md ops Q' fuel listed a1 w1) :
    ∀ (fuel : Nat) (listed : Array Bool) (a1 : Act) (w1 : World), (∃ s, (List.range ops.size).filter (fun i => !listed.getD i true) = s ∧ s.length = fuel) → RunInv md n ops C a0 S listed a1 w1 → wpAny P md ops Q' fuel listed a1 w1 := by
  have hready : ∀ listed : Array Bool, listed.size = ops.size → Region.ready md ops listed = [] → ∀ i, i < ops.size → listed.getD i true = true := by
    intro listed hls hr i
    induction i using Nat.strongRecOn with
    | _ i ih =>
      intro hi
      rcases hb : listed.getD i true with _ | _
      · exfalso
        have : i ∈ Region.ready md ops listed := by
          refine mem_ready.2 ⟨hb, ops[i], Array.getElem?_eq_getElem hi, fun e he hbd => ?_⟩
          have h1 := (hlex i _ (Array.getElem?_eq_getElem hi)).1 e he hbd
          have h2 := ih e.on h1 (by omega)
          have h3 : e.on < listed.size := by omega
          simpa [h3] using h2
        rw [hr] at this
        cases this
      · rfl
  have hend : ∀ (fuel : Nat) (listed : Array Bool) (a1 : Act) (w1 : World), (∃ s, (List.range ops.size).filter (fun i => !listed.getD i true) = s ∧ s.length = fuel) → RunInv md n ops C a0 S listed a1 w1 → (∀ i, i < n → listed.getD i true = true) → wpAny P md ops Q' fuel listed a1 w1 := by
    intro fuel listed a1 w1 hcnt hI hall
    have hsz := path_sizes hS0 hn hst n (Nat.le_refl _)
    refine hfin fuel listed a1 w1 hcnt hI.lsize hall hI.tail ⟨hI.world, hI.defers.trans hsz.2.symm, hI.size.trans hsz.1.symm, fun t => ?_⟩
    by_cases hw : ∃ (j : Nat) (oj : Oper), j < n ∧ ops[j]? = some oj ∧ oj.dst = some t
    · obtain ⟨j, oj, hjn, hj, hd⟩ := hw
      have hjl := (Array.getElem?_eq_some_iff.1 hj).1
      have hl : listed.getD j false = true := by
        have h1 := hall j hjn
        have h2 : j < listed.size := by rw [hI.lsize]; exact hjl
        simpa [h2] using h1
      have h1 := hI.done j oj t hj hl hd
      have h2 := path_other hS0 hn hst hin (t := t) (a1.tmps.getD t undef) w1 (j + 1) (n - (j + 1)) (by omega) (fun i oi h1 h2 hi hdi => by
        have := hone i j oi oj t hi hj hdi hd; omega)
      rw [show j + 1 + (n - (j + 1)) = n by omega] at h2
      exact h2.2 h1
    · have h1 := hI.rest t (fun j oj hj hl hd => by
        by_cases hjn : j < n
        · exact hw ⟨j, oj, hjn, hj, hd⟩
        · have hjl := (Array.getElem?_eq_some_iff.1 hj).1
          have := hI.tail j (by omega) hjl
          have h2 : j < listed.size := by rw [hI.lsize]; exact hjl
          simp [h2] at this hl
          rw [this] at hl; cases hl)
      have h2 := path_other hS0 hn hst hin (t := t) (a1.tmps.getD t undef) w1 0 n (by omega) (fun j oj _ h2 hj hd => hw ⟨j, oj, by omega, hj, hd⟩)
      rw [Nat.zero_add] at h2
      exact h2.2 ((slot0 hS0 t _ w1).2 h1)
  intro fuel
  induction fuel with
  | zero =>
    rintro listed a1 w1 ⟨s, hs, hlen⟩ hI
    refine hend 0 listed a1 w1 ⟨s, hs, hlen⟩ hI (fun i hi => ?_)
    have hnil : s = [] := List.eq_nil_of_length_eq_zero hlen
    subst hnil
    have := List.filter_eq_nil_iff.1 hs i (List.mem_range.2 (by omega))
    simpa using this
  | succ fuel ih =>
    rintro listed a1 w1 ⟨s, hs, hlen⟩ hI
    by_cases hdone : ∀ i, i < n → listed.getD i true = true
    · exact hend (fuel + 1) listed a1 w1 ⟨s, hs, hlen⟩ hI hdone
    refine ⟨fun h0 => absurd (fun i hi => hready listed hI.lsize h0 i (by omega)) hdone, fun i hi => ?_⟩
    obtain ⟨hun, oi, hoi, hall⟩ := mem_ready.1 hi
    have hin' : i < n := by
      rcases Nat.lt_or_ge i n with h | h
      · exact h
      · exfalso
        refine hdone (fun j hj => ?_)
        obtain ⟨e, he, hb, heq⟩ := hwait i oi h hoi j hj
        have h1 := hall e he hb
        rw [heq] at h1
        have h2 : j < listed.size := by rw [hI.lsize]; omega
        simpa [h2] using h1
    have hil := (Array.getElem?_eq_some_iff.1 hoi).1
    have hill : i < listed.size := by rw [hI.lsize]; exact hil
    have hunf : listed.getD i false = false := by simpa [hill] using hun
    have hcount : ∃ s', (List.range ops.size).filter (fun j => !(listed.setIfInBounds i true).getD j true) = s' ∧ s'.length = fuel := by
      refine ⟨_, rfl, ?_⟩
      have hn : (List.range ops.size).Nodup := List.nodup_range
      have e : (List.range ops.size).filter (fun j => !(listed.setIfInBounds i true).getD j true) = ((List.range ops.size).filter fun j => !listed.getD j true).erase i := by
        rw [List.Nodup.erase_eq_filter (List.Pairwise.filter _ hn), List.filter_filter]
        apply List.filter_congr
        intro j hj
        by_cases hji : j = i
        · subst hji; simp [hill]
        · rw [getD_set_ne true (Ne.symm hji)]; simp [hji]
      rw [e, List.length_erase_of_mem (List.mem_filter.2 ⟨List.mem_range.2 hil, by simp only [hun]; rfl⟩), hs, hlen]
      rfl
    have hlook : ∀ t ∈ oi.looksAt ops, slotIs (S i).1 (S i).2 t (a1.tmps.getD t undef) w1 := by
      intro t ht
      have hback : (∀ (j : Nat) (oj : Oper), ops[j]? = some oj → oj.dst = some t → i ≤ j) → (∀ (j : Nat) (oj : Oper), ops[j]? = some oj → oj.dst = some t → listed.getD j false = false) → slotIs (S i).1 (S i).2 t (a1.tmps.getD t undef) w1 := by
        intro h1 h2
        have h3 := path_other hS0 hn hst hin (t := t) (a1.tmps.getD t undef) w1 0 i (by omega) (fun j oj _ hj ho hd => by have := h1 j oj ho hd; omega)
        rw [Nat.zero_add] at h3
        refine h3.2 ((slot0 hS0 t _ w1).2 (hI.rest t (fun j oj hj hl hd => ?_)))
        rw [h2 j oj hj hd] at hl; cases hl
      by_cases hw : ∃ (j : Nat) (oj : Oper), ops[j]? = some oj ∧ oj.dst = some t
      · obtain ⟨j, oj, hj, hd⟩ := hw
        have huniq : ∀ (j' : Nat) (oj' : Oper), ops[j']? = some oj' → oj'.dst = some t → j' = j := fun j' oj' h1 h2 => hone j' j oj' oj t h1 hj h2 hd
        rcases Nat.lt_trichotomy j i with hji | hji | hji
        · rcases (hlex j oj hj).2 i oi hji hoi with ⟨e, he, hb, heq⟩ | hap
          · have hl : listed.getD j false = true := by rw [← heq]; exact hall e he hb
            have h1 := hI.done j oj t hj hl hd
            have h2 := path_other hS0 hn hst hin (t := t) (a1.tmps.getD t undef) w1 (j + 1) (i - (j + 1)) (by omega) (fun j' oj' h1 _ h3 h4 => by have := huniq j' oj' h3 h4; omega)
            rw [show j + 1 + (i - (j + 1)) = i by omega] at h2
            exact h2.2 h1
          · exact absurd ht ((Oper.apart_spec hap).1 t hd)
        · subst hji
          refine hback (fun j' oj' h1 h2 => by have := huniq j' oj' h1 h2; omega) (fun j' oj' h1 h2 => by rw [huniq j' oj' h1 h2]; exact hunf)
        · rcases (hlex i oi hoi).2 j oj hji hj with ⟨e, he, hb, heq⟩ | hap
          · refine hback (fun j' oj' h1 h2 => by have := huniq j' oj' h1 h2; omega) (fun j' oj' h1 h2 => ?_)
            rw [huniq j' oj' h1 h2]
            rcases hlj : listed.getD j false with _ | _
            · rfl
            · have := hI.closed j oj hj hlj e he hb
              rw [heq, hunf] at this; cases this
          · exact absurd ht ((Oper.apart_spec hap).2.2 t hd)
      · exact hback (fun j oj h1 h2 => absurd ⟨j, oj, h1, h2⟩ hw) (fun j oj h1 h2 => absurd ⟨j, oj, h1, h2⟩ hw)
    have hsz := path_sizes hS0 hn hst i (by omega)
    have hsame : a1.tmps.size = (S i).2.tmps.size := hI.size.trans hsz.1.symm
    have hnext : ∀ (v : Value) (w' : World), (∀ d, oi.dst = some d → slotIs (S (i + 1)).1 (S (i + 1)).2 d v w') → Below w1.heap.size w1 w' → RunInv md n ops C a0 S (listed.setIfInBounds i true) (a1.put oi.dst v) w' := by
      intro v w' hv hb
      have hget : ∀ t, oi.dst ≠ some t → (a1.put oi.dst v).tmps.getD t undef = a1.tmps.getD t undef := by
        intro t ht
        cases hd : oi.dst with
        | none => rfl
        | some d => rw [put_getD a1 d t v (by rw [hI.size]; exact hin i oi d hoi hd), if_neg (fun e => ht (by rw [hd, e]))]
      have hlist : ∀ j, (listed.setIfInBounds i true).getD j false = true → j = i ∨ listed.getD j false = true := by
        intro j hj
        by_cases hji : j = i
        · exact .inl hji
        · rw [getD_set_ne false (Ne.symm hji)] at hj; exact .inr hj
      refine ⟨hC _ _ hI.world hb, (put_defers _ _ _).trans hI.defers, (put_size _ _ _).trans hI.size, by simpa using hI.lsize, fun j oj hj hl e he hbd => ?_, fun j hnj hjl => ?_, fun j oj d hj hl hd => ?_, fun t ht => ?_⟩
      · rcases hlist j hl with rfl | hl
        · obtain rfl : oj = oi := by rw [hoi] at hj; simpa using hj.symm
          exact getD_set_true (hall e he hbd)
        · exact getD_set_true (hI.closed j oj hj hl e he hbd)
      · rw [getD_set_ne true (by omega)]; exact hI.tail _ hnj hjl
      · rcases hlist j hl with rfl | hl
        · obtain rfl : oj = oi := by rw [hoi] at hj; simpa using hj.symm
          rw [hd, put_getD a1 d d v (by rw [hI.size]; exact hin j oj d hj hd), if_pos rfl]
          exact hv d hd
        · have hne : oi.dst ≠ some d := by
            intro h
            have := hone i j oi oj d hoi hj h hd
            subst this
            rw [hunf] at hl; cases hl
          rw [hget d hne]
          exact (hI.done j oj d hj hl hd).keep hb
      · have hne : oi.dst ≠ some t := ht i oi hoi (by simp [hill])
        rw [hget t hne]
        exact hI.rest t (fun j oj hj hl => ht j oj hj (getD_set_true hl))
    have hkey : ∀ d, oi.dst = some d → (S i).1.lookup d = none := fun d hd => path_keys hS0 hn hst i (by omega) (fun j oj h1 h2 h3 => by have := hone j i oj oi d h2 hoi h3 hd; omega)
    have hstep := hst i oi hin' hoi
    unfold wpOp
    simp only [hoi]
    generalize hSi : S i = si at *
    generalize hSj : S (i + 1) = sj at *
    obtain ⟨Ii, ai⟩ := si
    obtain ⟨Ij, aj⟩ := sj
    simp only at hstep hlook hnext hsame hkey
    cases hstep with
    | skip hg hw =>
      rw [wanted_looks hg hsame hlook, hw]
      simp only [Bool.false_eq_true, if_false]
      refine ih _ _ _ hcount (hnext undef w1 (fun d hd => ?_) (Below.refl _ _))
      unfold slotIs
      rw [hkey d hd, hd]
      simp only
      rw [put_getD ai d d undef (by rw [← hsame, hI.size]; exact hin i oi d hoi hd), if_pos rfl]
    | val v hg hw h =>
      rw [wanted_looks hg hsame hlook, hw]
      simp only [if_true]
      refine .inl (h a1 w1 hI.world hlook _ _ (fun u w' hu hb => ih _ _ _ hcount (hnext u w' (fun d hd => ?_) hb)))
      unfold slotIs
      rw [hkey d hd, hd]
      simp only
      rw [put_getD ai d d v (by rw [← hsame, hI.size]; exact hin i oi d hoi hd), if_pos rfl]
      exact hu
    | ty d R hd hg hw h =>
      rw [wanted_looks hg hsame hlook, hw]
      simp only [if_true]
      refine .inl (h a1 w1 hI.world hlook _ _ (fun u w' hu hb => ih _ _ _ hcount (hnext u w' (fun d' hd' => ?_) hb)))
      obtain rfl : d = d' := by rw [hd] at hd'; simpa using hd'
      unfold slotIs
      rw [List.lookup_cons]
      simp only [BEq.rfl]
      exact hu
theorem count_none (n : Nat) : (List.range n).filter (fun i => !(Array.replicate n false).getD i true) = List.range n := by
  apply List.filter_eq_self.2
  intro i hi
  have := List.mem_range.1 hi
  simp [this]
theorem start_inv {md : Region.Mode} {n : Nat} {a : Act} {w : World} {S : Nat → Lx × Act} (hC : C { w with drawn := w.drawn + 1 }) : RunInv md n ops C a S (Array.replicate ops.size false) a { w with drawn := w.drawn + 1 } := by
  have hf : ∀ j, (Array.replicate ops.size false).getD j false = true → False := by
    intro j hl
    by_cases hi : j < ops.size <;> simp [hi] at hl
  exact ⟨hC, rfl, rfl, by simp, fun j oj hj hl => (hf j hl).elim, fun j _ hj => by simp [hj], fun j oj d hj hl => (hf j hl).elim, fun t _ => rfl⟩
theorem wp_region_lax {id : Nat} {Q : Exit → Act → World → Prop} {a : Act} {w : World} {l : List Oper} (hm : P.follows .mixedOrders = true) (hB : Region.lexB .any l.toArray = true) (hD : dstsB l a.tmps.size = true)
    (h : wpT P l.toArray (Below w.heap.size w) (fun a' w' => Q .normal a' w') l [] a) : (Code.region id l.toArray true).wp P Q a w := by
  obtain ⟨S, hS0, hst, hfin⟩ := wpT_path l [] a h
  have hB' : Region.lexFrom .any l.toArray l.toArray.size 0 (Array.replicate l.toArray.size false) = true := by
    simp only [Region.lexB, Bool.and_eq_true] at hB; exact hB.2
  refine wp_region_any hm ?_
  refine wpAny_lax (P := P) (ops := l.toArray) (C := Below w.heap.size w) (md := .any) (a0 := a) (S := S) (fun w1 w2 h1 h2 => h1.trans (h2.mono h1.size)) hS0 (n := l.toArray.size) (Nat.le_refl _) (fun k o _ hk => hst k o (by simpa using hk))
    (fun k o d hk hd => dsts_lt hD (k := k) (by simpa using hk) hd) (fun j k x y d hj hk hx hy => dsts_one hD (j := j) (k := k) (by simpa using hj) (by simpa using hk) hx hy)
    (fun i oi hi => lexFrom_free _ 0 _ hB' (by simp) (fun i => ?_) (by simp) i oi (Nat.zero_le _) hi) (fun i oi hi ho => absurd (Array.getElem?_eq_some_iff.1 ho).1 (by omega))
    (fun fuel listed a1 w1 ⟨s, hs, hlen⟩ hls hall _ hr => ?_) _ _ _ _ ⟨_, rfl, ?_⟩ (start_inv ⟨rfl, rfl, rfl, Nat.le_refl _, fun _ _ => rfl⟩)
  · by_cases hi : i < l.length
    · simp [hi]
    · simp [hi]; omega
  · have hq : Q .normal a1 w1 := hfin a1 w1 (by simpa using hr)
    have hnr : Region.ready .any l.toArray listed = [] := by
      apply List.eq_nil_iff_forall_not_mem.2
      intro i hi
      obtain ⟨h0, o, ho, _⟩ := mem_ready.1 hi
      have := hall i (Array.getElem?_eq_some_iff.1 ho).1
      rw [this] at h0; cases h0
    exact wpAny_done hnr hq fuel
  · rw [count_none]; simp
section steps
variable {Q : Act → World → Prop} {o : Oper} {rest : List Oper} {I : Lx} {a : Act}
theorem wpT_skip (hg : guardKnown ops o I = true) (hw : Region.wanted o (yielded ops a.tmps) = false) (k : wpT P ops C Q rest I (a.put o.dst undef)) : wpT P ops C Q (o :: rest) I a :=
  ⟨_, _, .skip hg hw, k⟩
def known (I : Lx) : Operand → Bool
  | .tmp t => (I.lookup t).isNone
  | _ => true
theorem looks_of_operand {x : Operand} {t : Tmp} (h : x ∈ o.op.operands) (hx : x = .tmp t) : t ∈ o.looksAt ops :=
  List.mem_append_left _ (List.mem_filterMap.2 ⟨x, by simpa using h, by rw [hx]⟩)
theorem known_eval {x : Operand} {a1 : Act} {w : World} (hx : known I x = true) (hm : x ∈ o.op.operands) (ht : ∀ t ∈ o.looksAt ops, slotIs I a t (a1.tmps.getD t undef) w) : a1.eval x = a.eval x := by
  cases x with
  | tmp t =>
    have h := ht t (looks_of_operand hm rfl)
    unfold slotIs at h
    have : I.lookup t = none := by simpa [known] using hx
    rw [this] at h
    exact h
  | _ => rfl
theorem wpT_move {x : Operand} (v : Value) (ho : o.op = .move x) (hv : a.eval x = v) (hx : known I x = true) (hg : guardKnown ops o I = true) (hw : Region.wanted o (yielded ops a.tmps) = true) (k : wpT P ops C Q rest I (a.put o.dst v)) : wpT P ops C Q (o :: rest) I a :=
  ⟨_, _, .val v hg hw (fun a1 w _ ht K Q' hK => by
    have e := known_eval hx (by rw [ho]; simp [Op.operands]) ht
    unfold Oper.wp
    simp only [ho, execOp]
    rw [e, hv]
    exact hK _ _ rfl (Below.refl _ _)), k⟩
theorem wpT_assign {x : Operand} (v : Value) (ho : o.op = .assign x) (hv : a.eval x = v) (hx : known I x = true) (hg : guardKnown ops o I = true) (hw : Region.wanted o (yielded ops a.tmps) = true) (k : wpT P ops C Q rest I (a.put o.dst v)) : wpT P ops C Q (o :: rest) I a :=
  ⟨_, _, .val v hg hw (fun a1 w _ ht K Q' hK => by
    have e := known_eval hx (by rw [ho]; simp [Op.operands]) ht
    unfold Oper.wp
    simp only [ho, execOp]
    rw [e, hv]
    exact hK _ _ rfl (Below.refl _ _)), k⟩
def notSelect (o : Oper) : Bool := match o.op with | .select .. => false | _ => true
theorem wpT_run (v : Value) (hs : notSelect o = true) (hl : (o.op.operands.toList.all (known I)) = true) (hg : guardKnown ops o I = true) (hw : Region.wanted o (yielded ops a.tmps) = true)
    (hrun : ∀ w, C w → (execOp a.eval o).run P w = .ok (.value v) w) (k : wpT P ops C Q rest I (a.put o.dst v)) : wpT P ops C Q (o :: rest) I a :=
  ⟨_, _, .val v hg hw (fun a1 w hC ht K Q' hK => by
    have e : execOp a1.eval o = execOp a.eval o := execOp_congr o (fun cs b h => by simp [notSelect, h] at hs) fun x hx => known_eval (by
      simp only [List.all_eq_true] at hl
      exact hl x (by simpa using hx)) hx ht
    unfold Oper.wp
    rw [e, hrun w hC]
    exact hK _ _ rfl (Below.refl _ _)), k⟩
theorem wpT_runT {d : Tmp} (R : Ty) (hd : o.dst = some d) (hs : notSelect o = true) (hl : (o.op.operands.toList.all (known I)) = true) (hg : guardKnown ops o I = true) (hw : Region.wanted o (yielded ops a.tmps) = true)
    (hrun : ∀ w, C w → ∃ v w', (execOp a.eval o).run P w = .ok (.value v) w' ∧ R.holds v w' ∧ Below w.heap.size w w') (k : wpT P ops C Q rest ((d, R) :: I) a) : wpT P ops C Q (o :: rest) I a :=
  ⟨_, _, .ty d R hd hg hw (fun a1 w hC ht K Q' hK => by
    have e : execOp a1.eval o = execOp a.eval o := execOp_congr o (fun cs b h => by simp [notSelect, h] at hs) fun x hx => known_eval (by
      simp only [List.all_eq_true] at hl
      exact hl x (by simpa using hx)) hx ht
    obtain ⟨v, w', h1, h3, h2⟩ := hrun w hC
    unfold Oper.wp
    rw [e, h1]
    exact hK _ _ h3 h2), k⟩
def isTmp (t : Tmp) : Operand → Bool
  | .tmp s => s == t
  | _ => false
theorem isTmp_eq {t : Tmp} {x : Operand} (h : isTmp t x = true) : x = .tmp t := by
  cases x with
  | tmp s => have : s = t := by simpa [isTmp] using h
             rw [this]
  | _ => simp [isTmp] at h
theorem isTmp_self (t : Tmp) : isTmp t (.tmp t) = true := by simp [isTmp]
theorem wpT_see {t : Tmp} {R : Ty} (v : Value) (hx : I.lookup t = some R) (hm : (Operand.tmp t) ∈ o.op.operands) (hs : notSelect o = true) (hl : (o.op.operands.toList.all fun x => known I x || isTmp t x) = true) (hg : guardKnown ops o I = true) (hw : Region.wanted o (yielded ops a.tmps) = true)
    (hrun : ∀ (u : Value) w, C w → R.holds u w → ∀ ρ : Operand → Value, ρ (.tmp t) = u → (∀ x, known I x = true → ρ x = a.eval x) → ∃ w', (execOp ρ o).run P w = .ok (.value v) w' ∧ Below w.heap.size w w') (k : wpT P ops C Q rest I (a.put o.dst v)) : wpT P ops C Q (o :: rest) I a :=
  ⟨_, _, .val v hg hw (fun a1 w hC ht K Q' hK => by
    have h : slotIs I a t (a1.tmps.getD t undef) w := ht t (looks_of_operand hm rfl)
    unfold slotIs at h
    rw [hx] at h
    have e : execOp a1.eval o = execOp (fun x => if isTmp t x = true then a1.tmps.getD t undef else a.eval x) o := execOp_congr o (fun cs b h => by simp [notSelect, h] at hs) fun x hxm => by
      by_cases hxt : isTmp t x = true
      · rw [if_pos hxt, isTmp_eq hxt]; rfl
      · rw [if_neg hxt]
        simp only [List.all_eq_true] at hl
        have h1 := hl x (by simpa using hxm)
        have h2 : known I x = true := by simpa [hxt] using h1
        exact known_eval h2 hxm ht
    obtain ⟨w', h1, h2⟩ := hrun _ w hC h (fun x => if isTmp t x = true then a1.tmps.getD t undef else a.eval x) (by rw [if_pos (isTmp_self t)]) (fun x hk => by
      by_cases hxt : isTmp t x = true
      · rw [isTmp_eq hxt] at hk; simp [known, hx] at hk
      · rw [if_neg hxt])
    unfold Oper.wp
    rw [e, h1]
    exact hK _ _ rfl h2), k⟩
theorem wpT_call (v : Value) {f : FuncId} (args : Array Value) (hs : notSelect o = true) (hl : (o.op.operands.toList.all (known I)) = true) (hg : guardKnown ops o I = true) (hw : Region.wanted o (yielded ops a.tmps) = true)
    (hent : ∀ w, (execOp a.eval o).run P w = .ok (.enter f args) w) (hc : ∀ w, C w → Calls P f args w fun e w' => e = .returned v ∧ Below w.heap.size w w') (k : wpT P ops C Q rest I (a.put o.dst v)) : wpT P ops C Q (o :: rest) I a :=
  ⟨_, _, .val v hg hw (fun a1 w hC ht K Q' hK => by
    have e : execOp a1.eval o = execOp a.eval o := execOp_congr o (fun cs b h => by simp [notSelect, h] at hs) fun x hx => known_eval (by
      simp only [List.all_eq_true] at hl
      exact hl x (by simpa using hx)) hx ht
    unfold Oper.wp
    rw [e, hent w]
    exact (hc w hC).mono fun e w' ⟨he, hb⟩ => by subst he; exact hK _ _ rfl hb), k⟩
theorem wpT_callT {d : Tmp} (R : Ty) {f : FuncId} (args : Array Value) (hd : o.dst = some d) (hs : notSelect o = true) (hl : (o.op.operands.toList.all (known I)) = true) (hg : guardKnown ops o I = true) (hw : Region.wanted o (yielded ops a.tmps) = true)
    (hent : ∀ w, (execOp a.eval o).run P w = .ok (.enter f args) w) (hc : ∀ w, C w → Calls P f args w fun e w' => ∃ v, e = .returned v ∧ R.holds v w' ∧ Below w.heap.size w w') (k : wpT P ops C Q rest ((d, R) :: I) a) : wpT P ops C Q (o :: rest) I a :=
  ⟨_, _, .ty d R hd hg hw (fun a1 w hC ht K Q' hK => by
    have e : execOp a1.eval o = execOp a.eval o := execOp_congr o (fun cs b h => by simp [notSelect, h] at hs) fun x hx => known_eval (by
      simp only [List.all_eq_true] at hl
      exact hl x (by simpa using hx)) hx ht
    unfold Oper.wp
    rw [e, hent w]
    exact (hc w hC).mono fun e w' ⟨v, he, hv, hb⟩ => by subst he; exact hK _ _ hv hb), k⟩
theorem gives_callU {t : Tmp} {R R' : Ty} {f : FuncId} (args : Value → Array Value) (hx : I.lookup t = some R) (hm : (Operand.tmp t) ∈ o.op.operands) (hs : notSelect o = true) (hl : (o.op.operands.toList.all fun x => known I x || isTmp t x) = true)
    (hent : ∀ (u : Value) w (ρ : Operand → Value), ρ (.tmp t) = u → (∀ x, known I x = true → ρ x = a.eval x) → (execOp ρ o).run P w = .ok (.enter f (args u)) w)
    (hc : ∀ (u : Value) w, C w → R.holds u w → Calls P f (args u) w fun e w' => ∃ v, e = .returned v ∧ R'.holds v w' ∧ Below w.heap.size w w') : Gives P ops C o I a R' := fun a1 w hC ht K Q' hK => by
    have h : slotIs I a t (a1.tmps.getD t undef) w := ht t (looks_of_operand hm rfl)
    unfold slotIs at h
    rw [hx] at h
    have e : execOp a1.eval o = execOp (fun x => if isTmp t x = true then a1.tmps.getD t undef else a.eval x) o := execOp_congr o (fun cs b h => by simp [notSelect, h] at hs) fun x hxm => by
      by_cases hxt : isTmp t x = true
      · rw [if_pos hxt, isTmp_eq hxt]; rfl
      · rw [if_neg hxt]
        simp only [List.all_eq_true] at hl
        have h1 := hl x (by simpa using hxm)
        have h2 : known I x = true := by simpa [hxt] using h1
        exact known_eval h2 hxm ht
    have h1 := hent (a1.tmps.getD t undef) w (fun x => if isTmp t x = true then a1.tmps.getD t undef else a.eval x) (by rw [if_pos (isTmp_self t)]) (fun x hk => by
      by_cases hxt : isTmp t x = true
      · rw [isTmp_eq hxt] at hk; simp [known, hx] at hk
      · rw [if_neg hxt])
    unfold Oper.wp
    rw [e, h1]
    exact (hc _ w hC h).mono fun e w' ⟨v, he, hv, hb⟩ => by subst he; exact hK _ _ hv hb
theorem wpT_callUV {t : Tmp} {R : Ty} (v : Value) {f : FuncId} (args : Value → Array Value) (hx : I.lookup t = some R) (hm : (Operand.tmp t) ∈ o.op.operands) (hs : notSelect o = true) (hl : (o.op.operands.toList.all fun x => known I x || isTmp t x) = true) (hg : guardKnown ops o I = true) (hw : Region.wanted o (yielded ops a.tmps) = true)
    (hent : ∀ (u : Value) w (ρ : Operand → Value), ρ (.tmp t) = u → (∀ x, known I x = true → ρ x = a.eval x) → (execOp ρ o).run P w = .ok (.enter f (args u)) w)
    (hc : ∀ (u : Value) w, C w → R.holds u w → Calls P f (args u) w fun e w' => e = .returned v ∧ Below w.heap.size w w') (k : wpT P ops C Q rest I (a.put o.dst v)) : wpT P ops C Q (o :: rest) I a :=
  ⟨_, _, .val v hg hw (gives_callU (R' := Ty.is v) args hx hm hs hl hent (fun u w h1 h2 => (hc u w h1 h2).mono fun _ _ h => ⟨v, h.1, rfl, h.2⟩)), k⟩
def FinQ (Q : Act → World → Prop) : Lx → Act → World → Prop
  | [], a, w => Q a w
  | (d, R) :: I, a, w => ∀ v, R.holds v w → FinQ Q I (a.put (some d) v) w
theorem rep_fin {n : Nat} : ∀ (I : Lx) (a a1 : Act) (w1 : World), a.tmps.size = n → (I.map (·.1)).Nodup → (∀ d ∈ I.map (·.1), d < n) → Rep C I a a1 w1 → FinQ Q I a w1 → Q a1 w1
  | [], a, a1, w1, hn, _, _, h, hq => by
    have : a1 = a := by
      obtain ⟨t1, d1⟩ := a1
      obtain ⟨t0, d0⟩ := a
      have e1 : t1 = t0 := by
        have hs : t1.size = t0.size := h.size
        apply Array.ext hs
        intro i h1 h2
        have := h.slot i
        have e : t1.getD i undef = t0.getD i undef := this
        simpa [h1, h2] using e
      have e2 : d1 = d0 := h.defers
      rw [e1, e2]
    rw [this]; exact hq
  | (d, R) :: I, a, a1, w1, hn, hk, hr, h, hq => by
    have hd : R.holds (a1.tmps.getD d undef) w1 := by
      have := h.slot d
      unfold slotIs at this
      rw [List.lookup_cons] at this
      simpa using this
    simp only [List.map_cons, List.nodup_cons] at hk
    have hdn : d < a.tmps.size := by rw [hn]; exact hr d (by simp)
    refine rep_fin I (a.put (some d) (a1.tmps.getD d undef)) a1 w1 (by rw [put_size]; exact hn) hk.2 (fun d' hd' => hr d' (by simp only [List.map_cons, List.mem_cons]; exact .inr hd')) ⟨h.world, by rw [put_defers]; exact h.defers, by rw [put_size]; exact h.size, fun t => ?_⟩ (hq _ hd)
    by_cases ht : t = d
    · subst ht
      have hno : I.lookup t = none := by
        cases hl : I.lookup t with
        | none => rfl
        | some R' =>
          exfalso
          have := List.lookup_eq_some_iff.1 hl
          obtain ⟨l1, l2, e, _⟩ := this
          exact hk.1 (by rw [e]; simp)
      unfold slotIs
      rw [hno]
      simp only
      rw [put_getD a t t _ hdn, if_pos rfl]
    · have := h.slot t
      unfold slotIs at this ⊢
      rw [List.lookup_cons] at this
      have hb : (t == d) = false := by simpa using ht
      simp only [hb] at this
      rw [put_getD a d t _ hdn, if_neg ht]
      exact this
theorem wpT_end (hk : ((I.map (·.1)).Nodup && (I.map (·.1)).all (· < a.tmps.size)) = true) (h : ∀ w, C w → FinQ Q I a w) : wpT P ops C Q [] I a := fun a1 w1 hr => by
  simp only [Bool.and_eq_true, decide_eq_true_eq, List.all_eq_true] at hk
  exact rep_fin I a a1 w1 rfl hk.1 hk.2 hr (h w1 hr.world)
end steps
section lists
variable {Q : Act → World → Prop} {o : Oper} {rest : List Oper} {I : Lx} {fs : List Value} {ds : List Deferred}
def mkA (fs : List Value) (ds : List Deferred) : Act := ⟨fs.toArray, ds⟩
def setL (fs : List Value) (d : Option Tmp) (v : Value) : List Value := match d with | some d => fs.set d v | none => fs
theorem mkA_put (d : Option Tmp) (v : Value) : (mkA fs ds).put d v = mkA (setL fs d v) ds := by
  cases d with
  | none => rfl
  | some d => simp [mkA, setL, Act.put]
def ev (fs : List Value) : Operand → Value
  | .tmp t => fs.getD t undef
  | .const v => v
  | .global g => .pointer (some ⟨g, 0, none⟩)
  | .func f => .func (.func f) #[] #[]
theorem mkA_eval (x : Operand) : (mkA fs ds).eval x = ev fs x := by
  cases x with
  | tmp t => simp [mkA, ev, Act.eval]
  | _ => rfl
theorem mkA_evalF : (mkA fs ds).eval = ev fs := funext mkA_eval
def wantedL (ops : Array Oper) (fs : List Value) (o : Oper) : Bool :=
  match o.guard with
  | none => true
  | some (g, want) => match (ops.toList[g]?).bind (·.dst) with
    | none => Region.wanted o (fun _ => none)
    | some d => match fs[d]? with
      | some (.bool b) => Region.wanted o (fun _ => some b)
      | _ => Region.wanted o (fun _ => none)
theorem wantedL_eq : Region.wanted o (yielded ops (mkA fs ds).tmps) = wantedL ops fs o := by
  unfold wantedL Region.wanted
  cases hg : o.guard with
  | none => rfl
  | some gw =>
    obtain ⟨g, want⟩ := gw
    have e : ops.toList[g]? = ops[g]? := by simp
    simp only [e]
    have hy : yielded ops (mkA fs ds).tmps g = match (ops[g]?).bind (·.dst) with | none => none | some d => match fs[d]? with | some (.bool b) => some b | _ => none := by
      unfold yielded
      cases hd : (ops[g]?).bind (·.dst) with
      | none => rfl
      | some d =>
        simp only [mkA, Option.bind_some, List.getElem?_toArray]
        cases fs[d]? with
        | none => rfl
        | some v => cases v <;> rfl
    simp only [hy]
    cases hd : (ops[g]?).bind (·.dst) with
    | none => rfl
    | some d =>
      simp only
      cases fs[d]? with
      | none => rfl
      | some v => cases v <;> rfl
def wpL (P : Program) (ops : Array Oper) (C : World → Prop) (Q : Act → World → Prop) (ds : List Deferred) (l : List Oper) (I : Lx) (fs : List Value) : Prop := wpT P ops C Q l I (mkA fs ds)
theorem wp_lax_list {id : Nat} {Q : Exit → Act → World → Prop} {w : World} {l : List Oper} (hm : P.follows .mixedOrders = true) (hB : Region.lexB .any l.toArray = true) (hD : dstsB l fs.length = true)
    (h : wpL P l.toArray (Below w.heap.size w) (fun a' w' => Q .normal a' w') ds l [] fs) : (Code.region id l.toArray true).wp P Q ⟨fs.toArray, ds⟩ w :=
  wp_region_lax hm hB (by simpa using hD) h
theorem wpL_skip (hg : guardKnown ops o I = true) (hw : wantedL ops fs o = false) (k : wpL P ops C Q ds rest I (setL fs o.dst undef)) : wpL P ops C Q ds (o :: rest) I fs :=
  wpT_skip hg (wantedL_eq.trans hw) (by rw [mkA_put]; exact k)
theorem wpL_move {x : Operand} (v : Value) (ho : o.op = .move x) (hv : ev fs x = v) (hx : known I x = true) (hg : guardKnown ops o I = true) (hw : wantedL ops fs o = true) (k : wpL P ops C Q ds rest I (setL fs o.dst v)) : wpL P ops C Q ds (o :: rest) I fs :=
  wpT_move v ho ((mkA_eval x).trans hv) hx hg (wantedL_eq.trans hw) (by rw [mkA_put]; exact k)
theorem wpL_assign {x : Operand} (v : Value) (ho : o.op = .assign x) (hv : ev fs x = v) (hx : known I x = true) (hg : guardKnown ops o I = true) (hw : wantedL ops fs o = true) (k : wpL P ops C Q ds rest I (setL fs o.dst v)) : wpL P ops C Q ds (o :: rest) I fs :=
  wpT_assign v ho ((mkA_eval x).trans hv) hx hg (wantedL_eq.trans hw) (by rw [mkA_put]; exact k)
theorem wpL_run (v : Value) (hs : notSelect o = true) (hl : (o.op.operands.toList.all (known I)) = true) (hg : guardKnown ops o I = true) (hw : wantedL ops fs o = true)
    (hrun : ∀ w, C w → (execOp (ev fs) o).run P w = .ok (.value v) w) (k : wpL P ops C Q ds rest I (setL fs o.dst v)) : wpL P ops C Q ds (o :: rest) I fs :=
  wpT_run v hs hl hg (wantedL_eq.trans hw) (by rw [mkA_evalF]; exact hrun) (by rw [mkA_put]; exact k)
theorem wpL_runT {d : Tmp} (R : Ty) (hd : o.dst = some d) (hs : notSelect o = true) (hl : (o.op.operands.toList.all (known I)) = true) (hg : guardKnown ops o I = true) (hw : wantedL ops fs o = true)
    (hrun : ∀ w, C w → ∃ v w', (execOp (ev fs) o).run P w = .ok (.value v) w' ∧ R.holds v w' ∧ Below w.heap.size w w') (k : wpL P ops C Q ds rest ((d, R) :: I) fs) : wpL P ops C Q ds (o :: rest) I fs :=
  wpT_runT R hd hs hl hg (wantedL_eq.trans hw) (by rw [mkA_evalF]; exact hrun) k
theorem wpL_see {t : Tmp} {R : Ty} (v : Value) (hx : I.lookup t = some R) (hm : (Operand.tmp t) ∈ o.op.operands) (hs : notSelect o = true) (hl : (o.op.operands.toList.all fun x => known I x || isTmp t x) = true) (hg : guardKnown ops o I = true) (hw : wantedL ops fs o = true)
    (hrun : ∀ (u : Value) w, C w → R.holds u w → ∀ ρ : Operand → Value, ρ (.tmp t) = u → (∀ x, known I x = true → ρ x = ev fs x) → ∃ w', (execOp ρ o).run P w = .ok (.value v) w' ∧ Below w.heap.size w w') (k : wpL P ops C Q ds rest I (setL fs o.dst v)) : wpL P ops C Q ds (o :: rest) I fs :=
  wpT_see v hx hm hs hl hg (wantedL_eq.trans hw) (fun u w h1 h2 ρ h3 h4 => hrun u w h1 h2 ρ h3 (fun x hx => (h4 x hx).trans (mkA_eval x))) (by rw [mkA_put]; exact k)
theorem wpL_call (v : Value) {f : FuncId} (args : Array Value) (hs : notSelect o = true) (hl : (o.op.operands.toList.all (known I)) = true) (hg : guardKnown ops o I = true) (hw : wantedL ops fs o = true)
    (hent : ∀ w, (execOp (ev fs) o).run P w = .ok (.enter f args) w) (hc : ∀ w, C w → Calls P f args w fun e w' => e = .returned v ∧ Below w.heap.size w w') (k : wpL P ops C Q ds rest I (setL fs o.dst v)) : wpL P ops C Q ds (o :: rest) I fs :=
  wpT_call v args hs hl hg (wantedL_eq.trans hw) (by rw [mkA_evalF]; exact hent) hc (by rw [mkA_put]; exact k)
theorem wpL_callT {d : Tmp} (R : Ty) {f : FuncId} (args : Array Value) (hd : o.dst = some d) (hs : notSelect o = true) (hl : (o.op.operands.toList.all (known I)) = true) (hg : guardKnown ops o I = true) (hw : wantedL ops fs o = true)
    (hent : ∀ w, (execOp (ev fs) o).run P w = .ok (.enter f args) w) (hc : ∀ w, C w → Calls P f args w fun e w' => ∃ v, e = .returned v ∧ R.holds v w' ∧ Below w.heap.size w w') (k : wpL P ops C Q ds rest ((d, R) :: I) fs) : wpL P ops C Q ds (o :: rest) I fs :=
  wpT_callT R args hd hs hl hg (wantedL_eq.trans hw) (by rw [mkA_evalF]; exact hent) hc k
theorem wpL_callUV {t : Tmp} {R : Ty} (v : Value) {f : FuncId} (args : Value → Array Value) (hx : I.lookup t = some R) (hm : (Operand.tmp t) ∈ o.op.operands) (hs : notSelect o = true) (hl : (o.op.operands.toList.all fun x => known I x || isTmp t x) = true) (hg : guardKnown ops o I = true) (hw : wantedL ops fs o = true)
    (hent : ∀ (u : Value) w (ρ : Operand → Value), ρ (.tmp t) = u → (∀ x, known I x = true → ρ x = ev fs x) → (execOp ρ o).run P w = .ok (.enter f (args u)) w)
    (hc : ∀ (u : Value) w, C w → R.holds u w → Calls P f (args u) w fun e w' => e = .returned v ∧ Below w.heap.size w w') (k : wpL P ops C Q ds rest I (setL fs o.dst v)) : wpL P ops C Q ds (o :: rest) I fs :=
  wpT_callUV v args hx hm hs hl hg (wantedL_eq.trans hw) (fun u w ρ h1 h2 => hent u w ρ h1 (fun x hx => (h2 x hx).trans (mkA_eval x))) hc (by rw [mkA_put]; exact k)
theorem wpL_run1 {x : Operand} (vx v : Value) (hx : ev fs x = vx) (hs : notSelect o = true) (hl : (o.op.operands.toList.all (known I)) = true) (hg : guardKnown ops o I = true) (hw : wantedL ops fs o = true)
    (hrun : ∀ w (ρ : Operand → Value), C w → ρ x = vx → (∀ c, ρ (.const c) = c) → (execOp ρ o).run P w = .ok (.value v) w) (k : wpL P ops C Q ds rest I (setL fs o.dst v)) : wpL P ops C Q ds (o :: rest) I fs :=
  wpL_run v hs hl hg hw (fun w hC => hrun w _ hC hx fun _ => rfl) k
theorem wpL_run2 {x y : Operand} (vx vy v : Value) (hx : ev fs x = vx) (hy : ev fs y = vy) (hs : notSelect o = true) (hl : (o.op.operands.toList.all (known I)) = true) (hg : guardKnown ops o I = true) (hw : wantedL ops fs o = true)
    (hrun : ∀ w (ρ : Operand → Value), C w → ρ x = vx → ρ y = vy → (∀ c, ρ (.const c) = c) → (execOp ρ o).run P w = .ok (.value v) w) (k : wpL P ops C Q ds rest I (setL fs o.dst v)) : wpL P ops C Q ds (o :: rest) I fs :=
  wpL_run v hs hl hg hw (fun w hC => hrun w _ hC hx hy fun _ => rfl) k
theorem enter_of {P : Program} {f : FuncId} {xs : List Operand} {ts : Array TypeId} {o : Oper} {w : World} (ho : o.op = .call { callee := .value (.func f), args := xs.toArray, argTypes := ts }) (ρ : Operand → Value) (hρ : ρ (.func f) = .func (.func f) #[] #[])
    (hfn : ∀ (args : Array Value) w, (callFunc f args).run P w = .ok (.enter f args) w) : (execOp ρ o).run P w = .ok (.enter f (xs.map ρ).toArray) w := by
  simp [execOp, ho, resolve, hρ, Deferred.ofValue, invoke, go_sem, hfn]
theorem all_known {f : FuncId} {xs : List Operand} {ts : Array TypeId} (ho : o.op = .call { callee := .value (.func f), args := xs.toArray, argTypes := ts }) (hk : xs.all (known I) = true) : o.op.operands.toList.all (known I) = true := by
  rw [ho]
  simp [Op.operands, Call.operands, known] at *
  exact hk
theorem wpL_fn (v : Value) {f : FuncId} {xs : List Operand} {ts : Array TypeId} (args : List Value) (ho : o.op = .call { callee := .value (.func f), args := xs.toArray, argTypes := ts }) (ha : xs.map (ev fs) = args) (hk : xs.all (known I) = true) (hg : guardKnown ops o I = true) (hw : wantedL ops fs o = true)
    (hfn : ∀ (args : Array Value) w, (callFunc f args).run P w = .ok (.enter f args) w) (hc : ∀ w, C w → Calls P f args.toArray w fun e w' => e = .returned v ∧ Below w.heap.size w w') (k : wpL P ops C Q ds rest I (setL fs o.dst v)) : wpL P ops C Q ds (o :: rest) I fs :=
  wpL_call v args.toArray (by simp [notSelect, ho]) (all_known ho hk) hg hw (fun w => by rw [enter_of ho _ rfl hfn, ha]) hc k
theorem wpL_fnT {d : Tmp} (R : Ty) {f : FuncId} {xs : List Operand} {ts : Array TypeId} (args : List Value) (hd : o.dst = some d) (ho : o.op = .call { callee := .value (.func f), args := xs.toArray, argTypes := ts }) (ha : xs.map (ev fs) = args) (hk : xs.all (known I) = true) (hg : guardKnown ops o I = true) (hw : wantedL ops fs o = true)
    (hfn : ∀ (args : Array Value) w, (callFunc f args).run P w = .ok (.enter f args) w) (hc : ∀ w, C w → Calls P f args.toArray w fun e w' => ∃ v, e = .returned v ∧ R.holds v w' ∧ Below w.heap.size w w') (k : wpL P ops C Q ds rest ((d, R) :: I) fs) : wpL P ops C Q ds (o :: rest) I fs :=
  wpL_callT R args.toArray hd (by simp [notSelect, ho]) (all_known ho hk) hg hw (fun w => by rw [enter_of ho _ rfl hfn, ha]) hc k
theorem wpL_fnUV {t : Tmp} {R : Ty} (v : Value) {f : FuncId} {ts : Array TypeId} (ho : o.op = .call { callee := .value (.func f), args := #[.tmp t], argTypes := ts }) (hx : I.lookup t = some R) (hg : guardKnown ops o I = true) (hw : wantedL ops fs o = true)
    (hfn : ∀ (args : Array Value) w, (callFunc f args).run P w = .ok (.enter f args) w) (hc : ∀ (u : Value) w, C w → R.holds u w → Calls P f #[u] w fun e w' => e = .returned v ∧ Below w.heap.size w w') (k : wpL P ops C Q ds rest I (setL fs o.dst v)) : wpL P ops C Q ds (o :: rest) I fs :=
  wpL_callUV v (fun u => #[u]) hx (by rw [ho]; simp [Op.operands, Call.operands]) (by simp [notSelect, ho]) (by rw [ho]; simp [Op.operands, Call.operands, known, isTmp]) hg hw
    (fun u w ρ h1 h2 => by rw [enter_of (xs := [.tmp t]) ho ρ (h2 (.func f) rfl) hfn]; simp [h1]) hc k
def FinL (Q : Act → World → Prop) (ds : List Deferred) : Lx → List Value → World → Prop
  | [], fs, w => Q ⟨fs.toArray, ds⟩ w
  | (d, R) :: I, fs, w => ∀ v, R.holds v w → FinL Q ds I (fs.set d v) w
theorem finL_finQ : ∀ (I : Lx) (fs : List Value) (w : World), FinL Q ds I fs w → FinQ Q I (mkA fs ds) w
  | [], _, _, h => h
  | (d, R) :: I, fs, w, h => fun v hv => by rw [mkA_put]; exact finL_finQ I _ w (h v hv)
theorem wpL_end (hk : ((I.map (·.1)).Nodup && (I.map (·.1)).all (· < fs.length)) = true) (h : ∀ w, C w → FinL Q ds I fs w) : wpL P ops C Q ds [] I fs :=
  wpT_end (by simpa [mkA] using hk) (fun w hw => finL_finQ I fs w (h w hw))
theorem lxS (k : wpL P ops C Q ds rest I (setL fs o.dst undef)) (hg : guardKnown ops o I = true := by kernel_rfl) (hw : wantedL ops fs o = false := by kernel_rfl) : wpL P ops C Q ds (o :: rest) I fs := wpL_skip hg hw k
theorem lxM {x : Operand} (v : Value) (ho : o.op = .move x) (k : wpL P ops C Q ds rest I (setL fs o.dst v)) (hv : ev fs x = v := by kernel_rfl) (hx : known I x = true := by kernel_rfl) (hg : guardKnown ops o I = true := by kernel_rfl) (hw : wantedL ops fs o = true := by kernel_rfl) : wpL P ops C Q ds (o :: rest) I fs := wpL_move v ho hv hx hg hw k
theorem lxR (x : Operand) (vx v : Value) (hrun : ∀ w (ρ : Operand → Value), C w → ρ x = vx → (∀ c, ρ (.const c) = c) → (execOp ρ o).run P w = .ok (.value v) w) (k : wpL P ops C Q ds rest I (setL fs o.dst v)) (hx : ev fs x = vx := by kernel_rfl) (hs : notSelect o = true := by kernel_rfl) (hl : (o.op.operands.toList.all (known I)) = true := by kernel_rfl) (hg : guardKnown ops o I = true := by kernel_rfl) (hw : wantedL ops fs o = true := by kernel_rfl) : wpL P ops C Q ds (o :: rest) I fs := wpL_run1 vx v hx hs hl hg hw hrun k
theorem lxA (x : Operand) (vx v : Value) (k : wpL P ops C Q ds rest I (setL fs o.dst v)) (hrun : ∀ w (ρ : Operand → Value), C w → ρ x = vx → (∀ c, ρ (.const c) = c) → (execOp ρ o).run P w = .ok (.value v) w := by intro wx ρ hwx h0 hc; simp [go_sem, h0]) (hx : ev fs x = vx := by kernel_rfl) (hs : notSelect o = true := by kernel_rfl) (hl : (o.op.operands.toList.all (known I)) = true := by kernel_rfl) (hg : guardKnown ops o I = true := by kernel_rfl) (hw : wantedL ops fs o = true := by kernel_rfl) : wpL P ops C Q ds (o :: rest) I fs := wpL_run1 vx v hx hs hl hg hw hrun k
theorem lxT (x y : Operand) (vx vy v : Value) (hrun : ∀ w (ρ : Operand → Value), C w → ρ x = vx → ρ y = vy → (∀ c, ρ (.const c) = c) → (execOp ρ o).run P w = .ok (.value v) w) (k : wpL P ops C Q ds rest I (setL fs o.dst v)) (hx : ev fs x = vx := by kernel_rfl) (hy : ev fs y = vy := by kernel_rfl) (hs : notSelect o = true := by kernel_rfl) (hl : (o.op.operands.toList.all (known I)) = true := by kernel_rfl) (hg : guardKnown ops o I = true := by kernel_rfl) (hw : wantedL ops fs o = true := by kernel_rfl) : wpL P ops C Q ds (o :: rest) I fs := wpL_run2 vx vy v hx hy hs hl hg hw hrun k
theorem lxB (x y : Operand) (vx vy v : Value) (k : wpL P ops C Q ds rest I (setL fs o.dst v)) (hrun : ∀ w (ρ : Operand → Value), C w → ρ x = vx → ρ y = vy → (∀ c, ρ (.const c) = c) → (execOp ρ o).run P w = .ok (.value v) w := by intro wx ρ hwx h0 h1 hc; simp [go_sem, h0, h1]) (hx : ev fs x = vx := by kernel_rfl) (hy : ev fs y = vy := by kernel_rfl) (hs : notSelect o = true := by kernel_rfl) (hl : (o.op.operands.toList.all (known I)) = true := by kernel_rfl) (hg : guardKnown ops o I = true := by kernel_rfl) (hw : wantedL ops fs o = true := by kernel_rfl) : wpL P ops C Q ds (o :: rest) I fs := wpL_run2 vx vy v hx hy hs hl hg hw hrun k
theorem lxX {id : Nat} {Q : Exit → Act → World → Prop} {w : World} {l : List Oper} (h : wpL P l.toArray (Below w.heap.size w) (fun a' w' => Q .normal a' w') ds l [] fs) (hm : P.follows .mixedOrders = true := by kernel_rfl) (hB : Region.lexB .any l.toArray = true := by kernel_rfl) (hD : dstsB l fs.length = true := by kernel_rfl) : (Code.region id l.toArray true).wp P Q ⟨fs.toArray, ds⟩ w := wp_lax_list hm hB hD h
end lists
end
end Go.Own
end
section
namespace Go.Own
open Go.RowKit
section
variable {B : Nat} {w0 w w1 w2 : World} {Ps : List Asn}
theorem St.adopt (H : St B w0 w1 Ps) (g : Below w1.heap.size w1 w2) {T : Nat → Prop} (Q : Asn) (hQ : Q.holds T w2) (hT : ∀ k, T k → w1.heap.size ≤ k) : St B w0 w2 (Q :: Ps) := by
  obtain ⟨hb, hs, S, ha, hB⟩ := H
  have hst : Step (fun _ => False) (fun _ => False) w1 w2 := ⟨g.os, g.tape, g.output, g.size, fun k hk _ => g.block k hk, fun _ h => h.elim⟩
  refine ⟨hb.trans (g.mono hs), Nat.le_trans hs g.size, fun k => T k ∨ S k, ⟨T, S, hQ, ha.keep hst (fun _ _ h => h), fun k h1 h2 => ?_, fun k => Iff.rfl⟩, fun k hk => hk.elim (fun h => Nat.le_trans hs (hT k h)) (hB k)⟩
  have := hT k h1
  have := ha.lt k h2
  omega
theorem St.drop2 {P Q : Asn} (H : St B w0 w (P :: Q :: Ps)) : St B w0 w (P :: Ps) := (H.perm (List.Perm.swap Q P Ps)).drop 1
theorem St.swap2 {P Q : Asn} (H : St B w0 w (P :: Q :: Ps)) : St B w0 w (Q :: P :: Ps) := H.perm (List.Perm.swap Q P Ps)
end
end Go.Own
namespace Go.Proofs.YtmdphcebmgcdbaaGreat
open Go.RowKit Go.Own
namespace Byt
section
variable {B : Nat} {w0 : World}
theorem info8 : (Tryz.prog.info? 5).map (·.size) = some 1 := by kernel_rfl
end
end Byt
end Go.Proofs.YtmdphcebmgcdbaaGreat
end
section
namespace Go.Proofs.YtmdphcebmgcdbaaGreat
open Go.RowKit Go.Own
namespace Fla
open Go.FlaM Byt
structure ActD where
  kind : UInt8
  seg : Int
  page : Int
  c : UInt8
  b : List UInt8
  n : Int
  fates : List Int
abbrev actVs (a : ActD) (vb vf : Value) : List Value := [.int .u8 (a.kind.toNat : Int), .int .i64 a.seg, .int .i64 a.page, .int .u8 (a.c.toNat : Int), vb, .int .i64 a.n, vf]
abbrev i64B (x : Int) : Prop := -9223372036854775808 ≤ x ∧ x ≤ 9223372036854775807
def IView (w : World) (B : Nat) (ao : Option Addr) (l : List Int) : Prop := l = [] ∨ ∃ b o, ao = some ⟨b, o, none⟩ ∧ b < B ∧ b < w.heap.size ∧ ∀ j, j < l.length → w.cell? ⟨b, o + j, none⟩ = some (.int .i64 (l.getD j 0)) ∧ i64B (l.getD j 0)
def inAct : InT ActD := fun a B w cs => ∃ ab cb af cf, cs = actVs a (.slice ab a.b.length cb) (.slice af a.fates.length cf) ∧ View w (fun k => k < B) ab a.b ∧ a.b.length ≤ cb ∧ cb ≤ maxLen ∧ (ab = none → cb = 0) ∧
  IView w B af a.fates ∧ a.fates.length ≤ cf ∧ cf ≤ maxLen ∧ (af = none → cf = 0) ∧ i64B a.seg ∧ i64B a.page ∧ i64B a.n
theorem wf64 {a : Int} (h : (Lit.int .i64 a).wf = true) : i64B a := by
  simp [Lit.wf, IntKind.min, IntKind.max, IntKind.signed, IntKind.bits] at h
  unfold i64B
  omega
structure Lies (B : Nat) (w : World) (Ps : List Asn) (ao : Option Addr) (n cap : Nat) (x : List UInt8) : Prop where
  given : Given w ao n cap x
  where_ : (∃ (j : Nat) (e : TypeId), Ps[j]? = some (ARow e 1 (.slice ao n cap) n (x.map byteV))) ∨ View w (fun k => k < B) ao x
end Fla
end Go.Proofs.YtmdphcebmgcdbaaGreat
end
section
namespace Go.Proofs.YtmdphcebmgcdbaaGreat
open Go.RowKit Go.Own
namespace Fla
open Go.FlaM Byt
structure ActAt (w : World) (B b o : Nat) (a : ActD) : Prop where
  cells : ∃ ab cb af cf, w.cell? ⟨b, o, none⟩ = some (.int .u8 (a.kind.toNat : Int)) ∧ w.cell? ⟨b, o + 1, none⟩ = some (.int .i64 a.seg) ∧ w.cell? ⟨b, o + 2, none⟩ = some (.int .i64 a.page) ∧ w.cell? ⟨b, o + 3, none⟩ = some (.int .u8 (a.c.toNat : Int)) ∧
    w.cell? ⟨b, o + 4, none⟩ = some (.slice ab a.b.length cb) ∧ w.cell? ⟨b, o + 5, none⟩ = some (.int .i64 a.n) ∧ w.cell? ⟨b, o + 6, none⟩ = some (.slice af a.fates.length cf) ∧ inAct a B w (actVs a (.slice ab a.b.length cb) (.slice af a.fates.length cf))
end Fla
end Go.Proofs.YtmdphcebmgcdbaaGreat
end
section
namespace Go.Own
open Go.RowKit
section
variable {P : Program} {ops : Array Oper} {C : World → Prop}
def Fresh (ops : Array Oper) (F : List Tmp) (listed : Array Bool) (a1 : Act) (w1 : World) : Prop :=
  (∀ (j : Nat) (oj : Oper) (d : Tmp), ops[j]? = some oj → listed.getD j false = true → oj.dst = some d → d ∈ F → ∃ b, a1.tmps.getD d undef = .pointer (some ⟨b, 0, none⟩) ∧ b < w1.heap.size) ∧
  ∀ (j k : Nat) (oj ok : Oper) (d d' : Tmp), ops[j]? = some oj → ops[k]? = some ok → listed.getD j false = true → listed.getD k false = true → oj.dst = some d → ok.dst = some d' → d ∈ F → d' ∈ F → d ≠ d' → a1.tmps.getD d undef ≠ a1.tmps.getD d' undef
theorem with_fresh {F : List Tmp} {ob : Obj} {oi : Oper} {i : Nat} {a0 a1 : Act} {w1 : World} {R : Value → World → Prop} {K : Act → World → Prop} {Q : Exit → Act → World → Prop} (hs : a1.tmps.size = a0.tmps.size)
    (hin : ∀ (k : Nat) (o : Oper) (d : Tmp), ops[k]? = some o → o.dst = some d → d < a0.tmps.size) (hoi : ops[i]? = some oi)
    (hF : ∀ (i : Nat) (oi : Oper) (d : Tmp), ops[i]? = some oi → oi.dst = some d → d ∈ F → oi.guard = none ∧ ∀ a1 w K Q, oi.wp P a1 w K Q ↔ K (a1.put (some d) (.pointer (some ⟨w.heap.size, 0, none⟩))) (w.alloc ob))
    (h : ∀ (K : Act → World → Prop) (Q : Exit → Act → World → Prop), (∀ v w', R v w' → Below w1.heap.size w1 w' → K (a1.put oi.dst v) w') → oi.wp P a1 w1 K Q)
    (k : ∀ v w', R v w' → Below w1.heap.size w1 w' → (∀ d, oi.dst = some d → d ∈ F → v = .pointer (some ⟨w1.heap.size, 0, none⟩) ∧ w1.heap.size < w'.heap.size) → K (a1.put oi.dst v) w') : oi.wp P a1 w1 K Q := by
  by_cases hd : ∃ d, oi.dst = some d ∧ d ∈ F
  · obtain ⟨d, hd, hdF⟩ := hd
    have hi := (hF i oi d hoi hd hdF).2
    obtain ⟨v, e, hv, hb⟩ := (hi a1 w1 _ Q).1 (h (fun a' w' => ∃ v, a' = a1.put oi.dst v ∧ R v w' ∧ Below w1.heap.size w1 w') Q (fun v w' h1 h2 => ⟨v, rfl, h1, h2⟩))
    have hlt : d < a1.tmps.size := by rw [hs]; exact hin i oi d hoi hd
    have e2 : v = .pointer (some ⟨w1.heap.size, 0, none⟩) := by
      have := congrArg (fun a : Act => a.tmps.getD d undef) e
      simp only [hd] at this
      rw [put_getD a1 d d _ hlt, put_getD a1 d d _ hlt, if_pos rfl, if_pos rfl] at this
      exact this.symm
    refine (hi a1 w1 K Q).2 ?_
    have := k v _ hv hb (fun d' hd' _ => ⟨e2, by simp⟩)
    rw [hd, e2] at this
    exact this
  · exact h K Q (fun v w' h1 h2 => k v w' h1 h2 (fun d h3 h4 => absurd ⟨d, h3, h4⟩ hd))
inductive Reach (md : Region.Mode) (ops : Array Oper) : Oper → Nat → Prop
  | one {o : Oper} {e : Edge} {j : Nat} : e ∈ o.after → Region.binds md e = true → e.on = j → Reach md ops o j
  | step {o ok : Oper} {e : Edge} {j : Nat} : e ∈ o.after → Region.binds md e = true → ops[e.on]? = some ok → Reach md ops ok j → Reach md ops o j
theorem Reach.listed {md : Region.Mode} {ops : Array Oper} {listed : Array Bool} (hc : ∀ (j : Nat) (oj : Oper), ops[j]? = some oj → listed.getD j false = true → ∀ e ∈ oj.after, Region.binds md e = true → listed.getD e.on false = true) {o : Oper} {j : Nat} (h : Reach md ops o j) :
    (∀ e ∈ o.after, Region.binds md e = true → listed.getD e.on false = true) → listed.getD j false = true := by
  induction h with
  | one he hb hj => intro ha; rw [← hj]; exact ha _ he hb
  | step he hb hk _ ih => intro ha; exact ih (hc _ _ hk (ha _ he hb))
theorem wpAny_laxF {md : Region.Mode} {Q' : Exit → Act → World → Prop} (hC : ∀ w w', C w → Below w.heap.size w w' → C w') {a0 : Act} {S : Nat → Lx × Act} (hS0 : S 0 = ([], a0))
    {n : Nat} (hn : n ≤ ops.size) (hst : ∀ (k : Nat) (o : Oper), k < n → ops[k]? = some o → StepT P ops C o (S k).1 (S k).2 (S (k + 1)).1 (S (k + 1)).2)
    (hin : ∀ (k : Nat) (o : Oper) (d : Tmp), ops[k]? = some o → o.dst = some d → d < a0.tmps.size)
    (hone : ∀ (j k : Nat) (x y : Oper) (d : Tmp), ops[j]? = some x → ops[k]? = some y → x.dst = some d → y.dst = some d → j = k)
    (hlex : ∀ (i : Nat) (oi : Oper), ops[i]? = some oi → (∀ e ∈ oi.after, Region.binds md e = true → e.on < i) ∧ ∀ j oj, i < j → ops[j]? = some oj → (∃ e ∈ oj.after, Region.binds md e = true ∧ e.on = i) ∨ oi.apart ops oj = true)
    (F : List Tmp) (ob : Obj) (hF : ∀ (i : Nat) (oi : Oper) (d : Tmp), ops[i]? = some oi → oi.dst = some d → d ∈ F → oi.guard = none ∧ ∀ a1 w K Q, oi.wp P a1 w K Q ↔ K (a1.put (some d) (.pointer (some ⟨w.heap.size, 0, none⟩))) (w.alloc ob))
    (hwait : ∀ (i : Nat) (oi : Oper), n ≤ i → ops[i]? = some oi → ∀ j, j < n → Reach md ops oi j)
    (hfin : ∀ (fuel : Nat) (listed : Array Bool) (a1 : Act) (w1 : World), (∃ s, (List.range ops.size).filter (fun i => !listed.getD i true) = s ∧ s.length = fuel) → listed.size = ops.size → (∀ i, i < n → listed.getD i true = true) → (∀ j, n ≤ j → j < ops.size → listed.getD j true = false) → Rep C (S n).1 (S n).2 a1 w1 → Fresh ops F listed a1 w1 → wpAny P md ops Q' fuel listed a1 w1) :
    ∀ (fuel : Nat) (listed : Array Bool) (a1 : Act) (w1 : World), (∃ s, (List.range ops.size).filter (fun i => !listed.getD i true) = s ∧ s.length = fuel) → RunInv md n ops C a0 S listed a1 w1 → Fresh ops F listed a1 w1 → wpAny P md ops Q' fuel listed a1 w1 := by
  have hready : ∀ listed : Array Bool, listed.size = ops.size → Region.ready md ops listed = [] → ∀ i, i < ops.size → listed.getD i true = true := by
    intro listed hls hr i
    induction i using Nat.strongRecOn with
    | _ i ih =>
      intro hi
      rcases hb : listed.getD i true with _ | _
      · exfalso
        have : i ∈ Region.ready md ops listed := by
          refine mem_ready.2 ⟨hb, ops[i], Array.getElem?_eq_getElem hi, fun e he hbd => ?_⟩
          have h1 := (hlex i _ (Array.getElem?_eq_getElem hi)).1 e he hbd
          have h2 := ih e.on h1 (by omega)
          have h3 : e.on < listed.size := by omega
          simpa [h3] using h2
        rw [hr] at this
        cases this
      · rfl
  have hend : ∀ (fuel : Nat) (listed : Array Bool) (a1 : Act) (w1 : World), (∃ s, (List.range ops.size).filter (fun i => !listed.getD i true) = s ∧ s.length = fuel) → RunInv md n ops C a0 S listed a1 w1 → Fresh ops F listed a1 w1 → (∀ i, i < n → listed.getD i true = true) → wpAny P md ops Q' fuel listed a1 w1 := by
    intro fuel listed a1 w1 hcnt hI hJ hall
    have hsz := path_sizes hS0 hn hst n (Nat.le_refl _)
    refine hfin fuel listed a1 w1 hcnt hI.lsize hall hI.tail ⟨hI.world, hI.defers.trans hsz.2.symm, hI.size.trans hsz.1.symm, fun t => ?_⟩ hJ
    by_cases hw : ∃ (j : Nat) (oj : Oper), j < n ∧ ops[j]? = some oj ∧ oj.dst = some t
    · obtain ⟨j, oj, hjn, hj, hd⟩ := hw
      have hjl := (Array.getElem?_eq_some_iff.1 hj).1
      have hl : listed.getD j false = true := by
        have h1 := hall j hjn
        have h2 : j < listed.size := by rw [hI.lsize]; exact hjl
        simpa [h2] using h1
      have h1 := hI.done j oj t hj hl hd
      have h2 := path_other hS0 hn hst hin (t := t) (a1.tmps.getD t undef) w1 (j + 1) (n - (j + 1)) (by omega) (fun i oi h1 h2 hi hdi => by
        have := hone i j oi oj t hi hj hdi hd; omega)
      rw [show j + 1 + (n - (j + 1)) = n by omega] at h2
      exact h2.2 h1
    · have h1 := hI.rest t (fun j oj hj hl hd => by
        by_cases hjn : j < n
        · exact hw ⟨j, oj, hjn, hj, hd⟩
        · have hjl := (Array.getElem?_eq_some_iff.1 hj).1
          have := hI.tail j (by omega) hjl
          have h2 : j < listed.size := by rw [hI.lsize]; exact hjl
          simp [h2] at this hl
          rw [this] at hl; cases hl)
      have h2 := path_other hS0 hn hst hin (t := t) (a1.tmps.getD t undef) w1 0 n (by omega) (fun j oj _ h2 hj hd => hw ⟨j, oj, by omega, hj, hd⟩)
      rw [Nat.zero_add] at h2
      exact h2.2 ((slot0 hS0 t _ w1).2 h1)
  intro fuel
  induction fuel with
  | zero =>
    rintro listed a1 w1 ⟨s, hs, hlen⟩ hI hJ
    refine hend 0 listed a1 w1 ⟨s, hs, hlen⟩ hI hJ (fun i hi => ?_)
    have hnil : s = [] := List.eq_nil_of_length_eq_zero hlen
    subst hnil
    have := List.filter_eq_nil_iff.1 hs i (List.mem_range.2 (by omega))
    simpa using this
  | succ fuel ih =>
    rintro listed a1 w1 ⟨s, hs, hlen⟩ hI hJ
    by_cases hdone : ∀ i, i < n → listed.getD i true = true
    · exact hend (fuel + 1) listed a1 w1 ⟨s, hs, hlen⟩ hI hJ hdone
    refine ⟨fun h0 => absurd (fun i hi => hready listed hI.lsize h0 i (by omega)) hdone, fun i hi => ?_⟩
    obtain ⟨hun, oi, hoi, hall⟩ := mem_ready.1 hi
    have hin' : i < n := by
      rcases Nat.lt_or_ge i n with h | h
      · exact h
      · exfalso
        refine hdone (fun j hj => ?_)
        have h2 : j < listed.size := by rw [hI.lsize]; omega
        have h1 := (hwait i oi h hoi j hj).listed hI.closed hall
        simpa [h2] using h1
    have hil := (Array.getElem?_eq_some_iff.1 hoi).1
    have hill : i < listed.size := by rw [hI.lsize]; exact hil
    have hunf : listed.getD i false = false := by simpa [hill] using hun
    have hcount : ∃ s', (List.range ops.size).filter (fun j => !(listed.setIfInBounds i true).getD j true) = s' ∧ s'.length = fuel := by
      refine ⟨_, rfl, ?_⟩
      have hn : (List.range ops.size).Nodup := List.nodup_range
      have e : (List.range ops.size).filter (fun j => !(listed.setIfInBounds i true).getD j true) = ((List.range ops.size).filter fun j => !listed.getD j true).erase i := by
        rw [List.Nodup.erase_eq_filter (List.Pairwise.filter _ hn), List.filter_filter]
        apply List.filter_congr
        intro j hj
        by_cases hji : j = i
        · subst hji; simp [hill]
        · rw [getD_set_ne true (Ne.symm hji)]; simp [hji]
      rw [e, List.length_erase_of_mem (List.mem_filter.2 ⟨List.mem_range.2 hil, by simp only [hun]; rfl⟩), hs, hlen]
      rfl
    have hlook : ∀ t ∈ oi.looksAt ops, slotIs (S i).1 (S i).2 t (a1.tmps.getD t undef) w1 := by
      intro t ht
      have hback : (∀ (j : Nat) (oj : Oper), ops[j]? = some oj → oj.dst = some t → i ≤ j) → (∀ (j : Nat) (oj : Oper), ops[j]? = some oj → oj.dst = some t → listed.getD j false = false) → slotIs (S i).1 (S i).2 t (a1.tmps.getD t undef) w1 := by
        intro h1 h2
        have h3 := path_other hS0 hn hst hin (t := t) (a1.tmps.getD t undef) w1 0 i (by omega) (fun j oj _ hj ho hd => by have := h1 j oj ho hd; omega)
        rw [Nat.zero_add] at h3
        refine h3.2 ((slot0 hS0 t _ w1).2 (hI.rest t (fun j oj hj hl hd => ?_)))
        rw [h2 j oj hj hd] at hl; cases hl
      by_cases hw : ∃ (j : Nat) (oj : Oper), ops[j]? = some oj ∧ oj.dst = some t
      · obtain ⟨j, oj, hj, hd⟩ := hw
        have huniq : ∀ (j' : Nat) (oj' : Oper), ops[j']? = some oj' → oj'.dst = some t → j' = j := fun j' oj' h1 h2 => hone j' j oj' oj t h1 hj h2 hd
        rcases Nat.lt_trichotomy j i with hji | hji | hji
        · rcases (hlex j oj hj).2 i oi hji hoi with ⟨e, he, hb, heq⟩ | hap
          · have hl : listed.getD j false = true := by rw [← heq]; exact hall e he hb
            have h1 := hI.done j oj t hj hl hd
            have h2 := path_other hS0 hn hst hin (t := t) (a1.tmps.getD t undef) w1 (j + 1) (i - (j + 1)) (by omega) (fun j' oj' h1 _ h3 h4 => by have := huniq j' oj' h3 h4; omega)
            rw [show j + 1 + (i - (j + 1)) = i by omega] at h2
            exact h2.2 h1
          · exact absurd ht ((Oper.apart_spec hap).1 t hd)
        · subst hji
          refine hback (fun j' oj' h1 h2 => by have := huniq j' oj' h1 h2; omega) (fun j' oj' h1 h2 => by rw [huniq j' oj' h1 h2]; exact hunf)
        · rcases (hlex i oi hoi).2 j oj hji hj with ⟨e, he, hb, heq⟩ | hap
          · refine hback (fun j' oj' h1 h2 => by have := huniq j' oj' h1 h2; omega) (fun j' oj' h1 h2 => ?_)
            rw [huniq j' oj' h1 h2]
            rcases hlj : listed.getD j false with _ | _
            · rfl
            · have := hI.closed j oj hj hlj e he hb
              rw [heq, hunf] at this; cases this
          · exact absurd ht ((Oper.apart_spec hap).2.2 t hd)
      · exact hback (fun j oj h1 h2 => absurd ⟨j, oj, h1, h2⟩ hw) (fun j oj h1 h2 => absurd ⟨j, oj, h1, h2⟩ hw)
    have hsz := path_sizes hS0 hn hst i (by omega)
    have hsame : a1.tmps.size = (S i).2.tmps.size := hI.size.trans hsz.1.symm
    have hnext : ∀ (v : Value) (w' : World), (∀ d, oi.dst = some d → slotIs (S (i + 1)).1 (S (i + 1)).2 d v w') → Below w1.heap.size w1 w' → RunInv md n ops C a0 S (listed.setIfInBounds i true) (a1.put oi.dst v) w' := by
      intro v w' hv hb
      have hget : ∀ t, oi.dst ≠ some t → (a1.put oi.dst v).tmps.getD t undef = a1.tmps.getD t undef := by
        intro t ht
        cases hd : oi.dst with
        | none => rfl
        | some d => rw [put_getD a1 d t v (by rw [hI.size]; exact hin i oi d hoi hd), if_neg (fun e => ht (by rw [hd, e]))]
      have hlist : ∀ j, (listed.setIfInBounds i true).getD j false = true → j = i ∨ listed.getD j false = true := by
        intro j hj
        by_cases hji : j = i
        · exact .inl hji
        · rw [getD_set_ne false (Ne.symm hji)] at hj; exact .inr hj
      refine ⟨hC _ _ hI.world hb, (put_defers _ _ _).trans hI.defers, (put_size _ _ _).trans hI.size, by simpa using hI.lsize, fun j oj hj hl e he hbd => ?_, fun j hnj hjl => ?_, fun j oj d hj hl hd => ?_, fun t ht => ?_⟩
      · rcases hlist j hl with rfl | hl
        · obtain rfl : oj = oi := by rw [hoi] at hj; simpa using hj.symm
          exact getD_set_true (hall e he hbd)
        · exact getD_set_true (hI.closed j oj hj hl e he hbd)
      · rw [getD_set_ne true (by omega)]; exact hI.tail _ hnj hjl
      · rcases hlist j hl with rfl | hl
        · obtain rfl : oj = oi := by rw [hoi] at hj; simpa using hj.symm
          rw [hd, put_getD a1 d d v (by rw [hI.size]; exact hin j oj d hj hd), if_pos rfl]
          exact hv d hd
        · have hne : oi.dst ≠ some d := by
            intro h
            have := hone i j oi oj d hoi hj h hd
            subst this
            rw [hunf] at hl; cases hl
          rw [hget d hne]
          exact (hI.done j oj d hj hl hd).keep hb
      · have hne : oi.dst ≠ some t := ht i oi hoi (by simp [hill])
        rw [hget t hne]
        exact hI.rest t (fun j oj hj hl => ht j oj hj (getD_set_true hl))
    have hlistF : ∀ j, (listed.setIfInBounds i true).getD j false = true → j = i ∨ listed.getD j false = true := by
      intro j hj
      by_cases hji : j = i
      · exact .inl hji
      · rw [getD_set_ne false (Ne.symm hji)] at hj; exact .inr hj
    have hfresh : ∀ (v : Value) (w' : World), (∀ d, oi.dst = some d → d ∈ F → v = .pointer (some ⟨w1.heap.size, 0, none⟩) ∧ w1.heap.size < w'.heap.size) → Below w1.heap.size w1 w' → Fresh ops F (listed.setIfInBounds i true) (a1.put oi.dst v) w' := by
      intro v w' hv hb
      have hget : ∀ t, oi.dst ≠ some t → (a1.put oi.dst v).tmps.getD t undef = a1.tmps.getD t undef := by
        intro t ht
        cases hd : oi.dst with
        | none => rfl
        | some d => rw [put_getD a1 d t v (by rw [hI.size]; exact hin i oi d hoi hd), if_neg (fun e => ht (by rw [hd, e]))]
      have hself : ∀ d, oi.dst = some d → (a1.put oi.dst v).tmps.getD d undef = v := by
        intro d hd
        rw [hd, put_getD a1 d d v (by rw [hI.size]; exact hin i oi d hoi hd), if_pos rfl]
      have hother : ∀ (j : Nat) (oj : Oper) (d : Tmp), ops[j]? = some oj → oj.dst = some d → j ≠ i → oi.dst ≠ some d := fun j oj d hj hd hji h => hji (hone j i oj oi d hj hoi hd h)
      refine ⟨fun j oj d hj hl hd hdF => ?_, fun j k oj ok d d' hj hk hlj hlk hd hd' hdF hdF' hne => ?_⟩
      · by_cases hji : j = i
        · subst hji
          obtain rfl : oj = oi := by rw [hoi] at hj; simpa using hj.symm
          obtain ⟨h1, h2⟩ := hv d hd hdF
          exact ⟨_, (hself d hd).trans h1, h2⟩
        · obtain ⟨bk, h1, h2⟩ := hJ.1 j oj d hj ((hlistF j hl).resolve_left hji) hd hdF
          exact ⟨bk, (hget d (hother j oj d hj hd hji)).trans h1, Nat.lt_of_lt_of_le h2 hb.size⟩
      · by_cases hji : j = i
        · subst hji
          obtain rfl : oj = oi := by rw [hoi] at hj; simpa using hj.symm
          have hki : k ≠ j := fun e => by
            subst e
            obtain rfl : ok = oj := by rw [hoi] at hk; simpa using hk.symm
            rw [hd] at hd'
            exact hne (by simpa using hd')
          obtain ⟨bk, h1, h2⟩ := hJ.1 k ok d' hk ((hlistF k hlk).resolve_left hki) hd' hdF'
          rw [hself d hd, hget d' (hother k ok d' hk hd' hki), h1, (hv d hd hdF).1]
          intro e
          simp at e
        · by_cases hki : k = i
          · subst hki
            obtain rfl : ok = oi := by rw [hoi] at hk; simpa using hk.symm
            obtain ⟨bk, h1, h2⟩ := hJ.1 j oj d hj ((hlistF j hlj).resolve_left hji) hd hdF
            rw [hself d' hd', hget d (hother j oj d hj hd hji), h1, (hv d' hd' hdF').1]
            intro e
            simp at e
          · rw [hget d (hother j oj d hj hd hji), hget d' (hother k ok d' hk hd' hki)]
            exact hJ.2 j k oj ok d d' hj hk ((hlistF j hlj).resolve_left hji) ((hlistF k hlk).resolve_left hki) hd hd' hdF hdF' hne
    have hkey : ∀ d, oi.dst = some d → (S i).1.lookup d = none := fun d hd => path_keys hS0 hn hst i (by omega) (fun j oj h1 h2 h3 => by have := hone j i oj oi d h2 hoi h3 hd; omega)
    have hstep := hst i oi hin' hoi
    unfold wpOp
    simp only [hoi]
    generalize hSi : S i = si at *
    generalize hSj : S (i + 1) = sj at *
    obtain ⟨Ii, ai⟩ := si
    obtain ⟨Ij, aj⟩ := sj
    simp only at hstep hlook hnext hsame hkey
    cases hstep with
    | skip hg hw =>
      rw [wanted_looks hg hsame hlook, hw]
      simp only [Bool.false_eq_true, if_false]
      refine ih _ _ _ hcount (hnext undef w1 (fun d hd => ?_) (Below.refl _ _)) (hfresh undef w1 (fun d hd hdF => ?_) (Below.refl _ _))
      · unfold slotIs
        rw [hkey d hd, hd]
        simp only
        rw [put_getD ai d d undef (by rw [← hsame, hI.size]; exact hin i oi d hoi hd), if_pos rfl]
      · have h1 := (hF i oi d hoi hd hdF).1
        unfold Region.wanted at hw
        rw [h1] at hw
        cases hw
    | val v hg hw h =>
      rw [wanted_looks hg hsame hlook, hw]
      simp only [if_true]
      refine .inl (with_fresh hI.size hin hoi hF (h a1 w1 hI.world hlook) (fun u w' hu hb hv => ih _ _ _ hcount (hnext u w' (fun d hd => ?_) hb) (hfresh u w' hv hb)))
      unfold slotIs
      rw [hkey d hd, hd]
      simp only
      rw [put_getD ai d d v (by rw [← hsame, hI.size]; exact hin i oi d hoi hd), if_pos rfl]
      exact hu
    | ty d R hd hg hw h =>
      rw [wanted_looks hg hsame hlook, hw]
      simp only [if_true]
      refine .inl (with_fresh hI.size hin hoi hF (h a1 w1 hI.world hlook) (fun u w' hu hb hv => ih _ _ _ hcount (hnext u w' (fun d' hd' => ?_) hb) (hfresh u w' hv hb)))
      obtain rfl : d = d' := by rw [hd] at hd'; simpa using hd'
      unfold slotIs
      rw [List.lookup_cons]
      simp only [BEq.rfl]
      exact hu
theorem rep_no (m j : Nat) (hl : (Array.replicate m false).getD j false = true) : False := by
  by_cases hi : j < m <;> simp [hi] at hl
theorem tail_any {md : Region.Mode} {Q : Exit → Act → World → Prop} {l : List Oper} {n : Nat} (hlt : ∀ (i : Nat) (oi : Oper), l.toArray[i]? = some oi → ∀ e ∈ oi.after, Region.binds md e = true → e.on < i)
    (hch : ∀ (m i : Nat) (oi : Oper), n ≤ m → m < i → l.toArray[i]? = some oi → ∃ e ∈ oi.after, Region.binds md e = true ∧ e.on = m) :
    ∀ (r m : Nat) (listed : Array Bool) (a1 : Act) (w1 : World), m + r = l.length → n ≤ m → listed.size = l.toArray.size → (∀ i, i < m → listed.getD i true = true) → (∀ j, m ≤ j → j < l.toArray.size → listed.getD j true = false) →
      wpList P l.toArray Q (l.drop m) a1 w1 → wpAny P md l.toArray Q r listed a1 w1
  | 0, m, listed, a1, w1, hm, hnm, hls, hall, htail, hq => by
    have hnr : Region.ready md l.toArray listed = [] := by
      apply List.eq_nil_iff_forall_not_mem.2
      intro i hi
      obtain ⟨h0, o, ho, _⟩ := mem_ready.1 hi
      have h1 := (Array.getElem?_eq_some_iff.1 ho).1
      have := hall i (by simp at h1; omega)
      rw [this] at h0; cases h0
    rw [List.drop_eq_nil_of_le (by omega)] at hq
    exact wpAny_done hnr hq 0
  | r + 1, m, listed, a1, w1, hm, hnm, hls, hall, htail, hq => by
    have hml : m < l.length := by omega
    obtain ⟨o, ho⟩ : ∃ o, l[m]? = some o := ⟨l[m], by simp [hml]⟩
    have hon : l.toArray[m]? = some o := by simpa using ho
    have hdrop : l.drop m = o :: l.drop (m + 1) := by
      rw [List.drop_eq_getElem_cons hml]
      rw [List.getElem?_eq_getElem hml] at ho
      rw [Option.some.inj ho]
    rw [hdrop] at hq
    have hnl : listed.getD m true = false := htail m (Nat.le_refl _) (by simpa using hml)
    refine ⟨fun h0 => ?_, fun i hi => ?_⟩
    · exfalso
      have : m ∈ Region.ready md l.toArray listed := by
        refine mem_ready.2 ⟨hnl, o, hon, fun e he hb => ?_⟩
        have h1 := hlt m o hon e he hb
        have h2 := hall e.on h1
        have h3 : e.on < listed.size := by rw [hls]; simp; omega
        simpa [h3] using h2
      rw [h0] at this; cases this
    · obtain ⟨hun, oi, hoi, hal⟩ := mem_ready.1 hi
      have hil := (Array.getElem?_eq_some_iff.1 hoi).1
      obtain rfl : i = m := by
        rcases Nat.lt_trichotomy i m with h1 | h1 | h1
        · rw [hall i h1] at hun; cases hun
        · exact h1
        · exfalso
          obtain ⟨e, he, hb, heq⟩ := hch m i oi hnm h1 hoi
          have h2 := hal e he hb
          rw [heq] at h2
          have h3 : m < listed.size := by rw [hls]; simp; omega
          simp [h3] at h2 hnl
          rw [h2] at hnl; cases hnl
      have hmono : ∀ a2 w2, wpList P l.toArray Q (l.drop (i + 1)) a2 w2 → wpAny P md l.toArray Q r (listed.setIfInBounds i true) a2 w2 := fun a2 w2 h2 =>
        tail_any hlt hch r (i + 1) _ a2 w2 (by omega) (by omega) (by simpa using hls) (fun j hj => by
          by_cases hji : j = i
          · subst hji
            have h3 : j < listed.size := by rw [hls]; exact hil
            simp [h3]
          · rw [getD_set_ne true (Ne.symm hji)]; exact hall j (by omega)) (fun j hj hjl => by
          rw [getD_set_ne true (by omega)]; exact htail j (by omega) hjl) h2
      unfold wpOp
      simp only [hon]
      unfold wpList at hq
      split
      · rename_i hw
        rw [if_pos hw] at hq
        exact hq.imp (Oper.wp_mono hmono) (fun h => h)
      · rename_i hw
        rw [if_neg hw] at hq
        exact hmono _ _ hq
def reachB (l : List Oper) : Nat → Oper → Nat → Bool
  | 0, _, _ => false
  | f + 1, o, j => o.after.any fun e => Region.binds .any e && (e.on == j || match l[e.on]? with
      | some o2 => reachB l f o2 j
      | none => false)
theorem reachB_is {l : List Oper} : ∀ (f : Nat) (o : Oper) (j : Nat), reachB l f o j = true → Reach .any l.toArray o j
  | 0, _, _, h => by cases h
  | f + 1, o, j, h => by
    unfold reachB at h
    obtain ⟨e, he, hb⟩ := Array.any_eq_true'.1 h
    simp only [Bool.and_eq_true, Bool.or_eq_true, beq_iff_eq] at hb
    rcases hb.2 with h1 | h1
    · exact .one he hb.1 h1
    · split at h1
      · rename_i o2 ho2
        exact .step he hb.1 (by simpa using ho2) (reachB_is f o2 j h1)
      · cases h1
def waitsFB (l : List Oper) (n : Nat) : Bool := (List.range l.length).all fun i => decide (i < n) || match l[i]? with
  | some o => ((List.range n).all fun j => reachB l 12 o j) && (List.range i).all fun m => decide (m < n) || o.after.any fun e => Region.binds .any e && e.on == m
  | none => false
theorem wp_region_laxF {id : Nat} {Q : Exit → Act → World → Prop} {a : Act} {w : World} {l : List Oper} (n : Nat) (hn : n ≤ l.length) (F : List Tmp) (ob : Obj)
    (hF : ∀ (i : Nat) (oi : Oper) (d : Tmp), l[i]? = some oi → oi.dst = some d → d ∈ F → oi.guard = none ∧ ∀ a1 w K Q, oi.wp P a1 w K Q ↔ K (a1.put (some d) (.pointer (some ⟨w.heap.size, 0, none⟩))) (w.alloc ob))
    (hFn : ∀ (i : Nat) (oi : Oper) (d : Tmp), l[i]? = some oi → oi.dst = some d → d ∈ F → i < n) (hFa : ∀ d ∈ F, ∃ (i : Nat) (oi : Oper), l[i]? = some oi ∧ oi.dst = some d)
    (hm : P.follows .mixedOrders = true) (hB : Region.lexB .any l.toArray = true) (hD : dstsB l a.tmps.size = true) (hW : waitsFB l n = true)
    (h : wpT P l.toArray (Below w.heap.size w) (fun a' w' => (∀ d d', d ∈ F → d' ∈ F → d ≠ d' → a'.tmps.getD d undef ≠ a'.tmps.getD d' undef) → wpList P l.toArray Q (l.drop n) a' w') (l.take n) [] a) : (Code.region id l.toArray true).wp P Q a w := by
  obtain ⟨S, hS0, hst, hfin⟩ := wpT_path (l.take n) [] a h
  have hB' : Region.lexFrom .any l.toArray l.toArray.size 0 (Array.replicate l.toArray.size false) = true := by
    simp only [Region.lexB, Bool.and_eq_true] at hB; exact hB.2
  have hlen : (l.take n).length = n := by rw [List.length_take]; omega
  have hlex : ∀ (i : Nat) (oi : Oper), l.toArray[i]? = some oi → (∀ e ∈ oi.after, Region.binds .any e = true → e.on < i) ∧ ∀ j oj, i < j → l.toArray[j]? = some oj → (∃ e ∈ oj.after, Region.binds .any e = true ∧ e.on = i) ∨ oi.apart l.toArray oj = true :=
    fun i oi hi => lexFrom_free _ 0 _ hB' (by simp) (fun i => by by_cases hi : i < l.length <;> simp [hi]; omega) (by simp) i oi (Nat.zero_le _) hi
  have hW' : ∀ (i : Nat) (oi : Oper), n ≤ i → l[i]? = some oi → (∀ j, j < n → Reach .any l.toArray oi j) ∧ ∀ m, n ≤ m → m < i → ∃ e ∈ oi.after, Region.binds .any e = true ∧ e.on = m := by
    intro i oi hi hoi
    have hil := (List.getElem?_eq_some_iff.1 hoi).1
    unfold waitsFB at hW
    have h1 := List.all_eq_true.1 hW i (List.mem_range.2 hil)
    rw [hoi] at h1
    simp only [Bool.or_eq_true, decide_eq_true_eq, Bool.and_eq_true] at h1
    rcases h1 with h1 | ⟨h1, h2⟩
    · omega
    refine ⟨fun j hj => reachB_is _ _ _ (List.all_eq_true.1 h1 j (List.mem_range.2 hj)), fun m hm1 hm2 => ?_⟩
    · have := List.all_eq_true.1 h2 m (List.mem_range.2 hm2)
      simp only [Bool.or_eq_true, decide_eq_true_eq] at this
      rcases this with h3 | h3
      · omega
      obtain ⟨e, he, hb⟩ := Array.any_eq_true'.1 h3
      simp only [Bool.and_eq_true, beq_iff_eq] at hb
      exact ⟨e, he, hb.1, hb.2⟩
  refine wp_region_any hm ?_
  refine wpAny_laxF (P := P) (ops := l.toArray) (C := Below w.heap.size w) (md := .any) (a0 := a) (S := S) (fun w1 w2 h1 h2 => h1.trans (h2.mono h1.size)) hS0 (n := n) (by simpa using hn) (fun k o' hk ho' => hst k o' (by rw [List.getElem?_take_of_lt hk]; simpa using ho'))
    (fun k o d hk hd => dsts_lt hD (k := k) (by simpa using hk) hd) (fun j k x y d hj hk hx hy => dsts_one hD (j := j) (k := k) (by simpa using hj) (by simpa using hk) hx hy)
    hlex F ob (fun i oi d hi => hF i oi d (by simpa using hi)) (fun i oi hi hoi j hj => ?_)
    (fun fuel listed a1 w1 ⟨s, hs, hcnt⟩ hls hall htail hr hfr => ?_) _ _ _ _ ⟨_, rfl, ?_⟩ (start_inv ⟨rfl, rfl, rfl, Nat.le_refl _, fun _ _ => rfl⟩) ⟨fun j oj d hj hl => ?_, fun j k oj ok d d' hj hk hl => ?_⟩
  · exact (hW' i oi hi (by simpa using hoi)).1 j hj
  · have hq := hfin a1 w1 (by rw [hlen]; exact hr) (fun d d' hd hd' hne => by
      obtain ⟨i, oi, hoi, hdi⟩ := hFa d hd
      obtain ⟨k, ok, hok, hdk⟩ := hFa d' hd'
      have g : ∀ (i : Nat) (oi : Oper) (d : Tmp), l[i]? = some oi → oi.dst = some d → d ∈ F → listed.getD i false = true := by
        intro i oi d h1 h2 h3
        have h4 := hall i (hFn i oi d h1 h2 h3)
        have h5 : i < listed.size := by rw [hls]; simpa using (List.getElem?_eq_some_iff.1 h1).1
        simpa [h5] using h4
      exact hfr.2 i k oi ok d d' (by simpa using hoi) (by simpa using hok) (g i oi d hoi hdi hd) (g k ok d' hok hdk hd') hdi hdk hd hd' hne)
    have hfuel : fuel = l.length - n := by
      rw [← hcnt, ← hs]
      have : (List.range l.toArray.size).filter (fun i => !listed.getD i true) = (List.range (l.length - n)).map (n + ·) := by
        have e : l.toArray.size = n + (l.length - n) := by simp; omega
        rw [e, List.range_add, List.filter_append]
        have h1 : (List.range n).filter (fun i => !listed.getD i true) = [] := by
          apply List.filter_eq_nil_iff.2
          intro i hi
          rw [hall i (List.mem_range.1 hi)]
          simp
        have h2 : ((List.range (l.length - n)).map (n + ·)).filter (fun i => !listed.getD i true) = (List.range (l.length - n)).map (n + ·) := by
          apply List.filter_eq_self.2
          intro i hi
          obtain ⟨k, hk, rfl⟩ := List.mem_map.1 hi
          have := List.mem_range.1 hk
          rw [htail (n + k) (by omega) (by omega)]
          rfl
        rw [h1, h2, List.nil_append]
      rw [this]; simp
    rw [hfuel]
    exact tail_any (n := n) (fun i oi hi => (hlex i oi hi).1) (fun m i oi h1 h2 hoi => (hW' i oi (by omega) (by simpa using hoi)).2 m h1 h2) _ n listed a1 w1 (by omega) (Nat.le_refl _) hls hall htail hq
  · rw [count_none]; simp
  · exact (rep_no _ _ hl).elim
  · exact (rep_no _ _ hl).elim
theorem wp_laxW_list {id : Nat} {Q : Exit → Act → World → Prop} {w : World} {l : List Oper} {fs : List Value} {ds : List Deferred} (n : Nat) (hn : decide (n ≤ l.length) = true)
    (hm : P.follows .mixedOrders = true) (hB : Region.lexB .any l.toArray = true) (hD : dstsB l fs.length = true) (hW : waitsFB l n = true)
    (h : wpL P l.toArray (Below w.heap.size w) (fun a' w' => (∀ d d', d ∈ ([] : List Tmp) → d' ∈ ([] : List Tmp) → d ≠ d' → a'.tmps.getD d undef ≠ a'.tmps.getD d' undef) → wpList P l.toArray Q (l.drop n) a' w') ds (l.take n) [] fs) : (Code.region id l.toArray true).wp P Q ⟨fs.toArray, ds⟩ w :=
  wp_region_laxF n (of_decide_eq_true hn) [] (.cells #[] 0) (fun _ _ _ _ _ h => by cases h) (fun _ _ _ _ _ h => by cases h) (fun _ h => by cases h) hm hB (by simpa using hD) hW h
end
end Go.Own
end
section
namespace Go.Proofs.YtmdphcebmgcdbaaGreat
open Go.RowKit Go.Own
namespace Fla
open Go.FlaM Byt
def RetYes (w : World) (e : Ending) (w' : World) : Prop := e = .returned (.bool true) ∧ Below w.heap.size w w'
abbrev ptr (p : Nat) : Value := .pointer (some ⟨p, 0, none⟩)
abbrev errV (n : Nat) : Value := .int .i64 (n : Int)
structure Kept (W : World) where
  A : Nat → FS → Asn
  new : ∀ {B : Nat} {w0 w : World} {Ps : List Asn} (segs pages : Int), Below W.heap.size W w → Own.St B w0 w Ps → i64B segs → i64B pages →
    Calls Tryz.prog 15 #[.int .i64 segs, .int .i64 pages] w fun e w' => if mayBe segs pages = true then ∃ p, e = .returned (.tuple #[ptr p, errV 0]) ∧ Own.St B w0 w' (A p (fresh segs.toNat pages.toNat) :: Ps) else e = .returned (.tuple #[.pointer none, errV 1]) ∧ Own.St B w0 w' Ps
  program : ∀ {B : Nat} {w0 w : World} {Ps : List Asn} {p : Nat} {s : FS} {N : Nat} (seg page : Int) (ao : Option Addr) (n cap : Nat) (x : Bs), Below W.heap.size W w → Own.St B w0 w (A p s :: Ps) → Ok s N → N ≤ 10000 → i64B seg → i64B page → Lies B w Ps ao n cap x → n ≤ 20000 →
    Calls Tryz.prog 42 #[ptr p, .int .i64 seg, .int .i64 page, .slice ao n cap] w fun e w' => e = .returned (errV (progF s seg page x).2) ∧ Own.St B w0 w' (A p (progF s seg page x).1 :: Ps)
  erase : ∀ {B : Nat} {w0 w : World} {Ps : List Asn} {p : Nat} {s : FS} {N : Nat} (seg : Int), Below W.heap.size W w → Own.St B w0 w (A p s :: Ps) → Ok s N → N ≤ 10000 → i64B seg →
    Calls Tryz.prog 97 #[ptr p, .int .i64 seg] w fun e w' => e = .returned (errV (erase s seg).2) ∧ Own.St B w0 w' (A p (erase s seg).1 :: Ps)
  barrier : ∀ {B : Nat} {w0 w : World} {Ps : List Asn} {p : Nat} {s : FS} {N : Nat}, Below W.heap.size W w → Own.St B w0 w (A p s :: Ps) → Ok s N → N ≤ 10000 →
    Calls Tryz.prog 23 #[ptr p] w fun e w' => e = .returned (errV (barrier s).2) ∧ Own.St B w0 w' (A p (barrier s).1 :: Ps)
  read : ∀ {B : Nat} {w0 w : World} {Ps : List Asn} {p : Nat} {s : FS} {N : Nat} (seg page : Int), Below W.heap.size W w → Own.St B w0 w (A p s :: Ps) → Ok s N → N ≤ 10000 → i64B seg → i64B page →
    Calls Tryz.prog 46 #[ptr p, .int .i64 seg, .int .i64 page] w fun e w' => ∃ ao cap, e = .returned (.tuple #[.slice ao (read s seg page).1.length cap, errV (read s seg page).2]) ∧ Own.St B w0 w' (AB ao (read s seg page).1.length cap (read s seg page).1 :: A p s :: Ps)
  segs : ∀ {B : Nat} {w0 w : World} {Ps : List Asn} {p : Nat} {s : FS} {N : Nat}, Below W.heap.size W w → Own.St B w0 w (A p s :: Ps) → Ok s N → N ≤ 10000 → Calls Tryz.prog 37 #[ptr p] w fun e w' => e = .returned (errV s.safe.length) ∧ Below w.heap.size w w'
  pages : ∀ {B : Nat} {w0 w : World} {Ps : List Asn} {p : Nat} {s : FS} {N : Nat}, Below W.heap.size W w → Own.St B w0 w (A p s :: Ps) → Ok s N → N ≤ 10000 → Calls Tryz.prog 19 #[ptr p] w fun e w' => e = .returned (errV s.pp) ∧ Below w.heap.size w w'
  nilProgram : ∀ (seg page : Int) (v : Value) (w : World), Calls Tryz.prog 42 #[.pointer none, .int .i64 seg, .int .i64 page, v] w fun e w' => e = .returned (errV 2) ∧ Below w.heap.size w w'
  nilErase : ∀ (seg : Int) (w : World), Calls Tryz.prog 97 #[.pointer none, .int .i64 seg] w fun e w' => e = .returned (errV 2) ∧ Below w.heap.size w w'
  nilBarrier : ∀ (w : World), Calls Tryz.prog 23 #[.pointer none] w fun e w' => e = .returned (errV 2) ∧ Below w.heap.size w w'
  nilRead : ∀ (seg page : Int) (w : World), Calls Tryz.prog 46 #[.pointer none, .int .i64 seg, .int .i64 page] w fun e w' => ∃ ao cap, e = .returned (.tuple #[.slice ao 0 cap, errV 2]) ∧ Below w.heap.size w w'
  nilSegs : ∀ (w : World), Calls Tryz.prog 37 #[.pointer none] w fun e w' => e = .returned (errV 0) ∧ Below w.heap.size w w'
  nilPages : ∀ (w : World), Calls Tryz.prog 19 #[.pointer none] w fun e w' => e = .returned (errV 0) ∧ Below w.heap.size w w'
end Fla
end Go.Proofs.YtmdphcebmgcdbaaGreat
end
section
namespace Go.Own
open Go.RowKit
def AEx {α : Type} (P : α → Asn) : Asn := ⟨fun S w => ∃ x, (P x).holds S w, fun ⟨x, h⟩ g hd => ⟨x, (P x).keep h g hd⟩, fun ⟨x, h⟩ => (P x).lt h⟩
section
variable {B : Nat} {w0 w w' : World} {Ps Qs : List Asn} {α : Type} {P : α → Asn}
theorem St.openE (h : St B w0 w (AEx P :: Ps)) : ∃ x, St B w0 w (P x :: Ps) := by
  obtain ⟨hb, hs, S, ⟨S1, S2, ⟨x, h1⟩, h2, h3, h4⟩, hB⟩ := h
  exact ⟨x, hb, hs, S, ⟨S1, S2, h1, h2, h3, h4⟩, hB⟩
theorem St.closeE (x : α) (h : St B w0 w (P x :: Ps)) : St B w0 w (AEx P :: Ps) := by
  obtain ⟨hb, hs, S, ⟨S1, S2, h1, h2, h3, h4⟩, hB⟩ := h
  exact ⟨hb, hs, S, ⟨S1, S2, ⟨x, h1⟩, h2, h3, h4⟩, hB⟩
variable {e : TypeId} {size n cap : Nat} {ao : Option Addr} {xs : List Value}
theorem St.rowLen (H : St B w0 w Ps) (i : Nat) (hi : Ps[i]? = some (ARow e size (.slice ao n cap) n xs)) : xs.length = n * size ∧ n ≤ cap ∧ cap ≤ maxLen ∧ (ao = none → n = 0 ∧ cap = 0) := by
  obtain ⟨S, hS, _⟩ := H.at i hi
  obtain ⟨ao', cap', hv, h1, h2, h3, _⟩ := Row.form hS
  simp only [Value.slice.injEq, true_and] at hv
  obtain ⟨rfl, rfl⟩ := hv
  exact ⟨hS.own.1, h1, h2, fun h => ⟨(h3 h).1, (h3 h).2.1⟩⟩
theorem St.rowForm {v : Value} (H : St B w0 w Ps) (i : Nat) (hi : Ps[i]? = some (ARow e size v n xs)) : ∃ ao cap, v = .slice ao n cap := by
  obtain ⟨S, hS, _⟩ := H.at i hi
  obtain ⟨ao', cap', hv, _⟩ := Row.form hS
  exact ⟨ao', cap', hv⟩
theorem St.rowAt (H : St B w0 w Ps) (i : Nat) (hi : Ps[i]? = some (ARow e size (.slice ao n cap) n xs)) (j : Nat) (hj : j < n * size) :
    ∃ g, ao = some ⟨g, 0, none⟩ ∧ (∃ u, xs[j]? = some u ∧ w.cell? ⟨g, j, none⟩ = some u) ∧ w.frozen? ⟨g, j, none⟩ = false ∧
      ∀ u : Value, St B w0 (w.setCell ⟨g, j, none⟩ u) (Ps.set i (ARow e size (.slice ao n cap) n (xs.set j u))) := by
  obtain ⟨S, hS, _, put⟩ := H.at i hi
  have hlen := (H.rowLen i hi).1
  obtain ⟨hown, hset⟩ := hS
  rcases hown.2 with ⟨hv, rfl⟩ | ⟨g, cap', cur, hv, h0, hb, hnc, hcm, hcs, htake⟩
  · omega
  · simp only [Value.slice.injEq, true_and] at hv
    obtain ⟨rfl, rfl⟩ := hv
    have hx : xs[j]? = some xs[j] := List.getElem?_eq_getElem (by omega)
    have hcur : cur[j]? = some xs[j] := by
      have : (cur.toList.take (n * size))[j]? = xs[j]? := by rw [htake]
      rw [List.getElem?_take_of_lt hj] at this
      rw [← Array.getElem?_toList, this, hx]
    refine ⟨g, rfl, ⟨_, hx, cell_of_block hb hcur⟩, frozen_of_block hb, fun u => ?_⟩
    exact put S _ (ARow e size (.slice (some ⟨g, 0, none⟩) n cap) n (xs.set j u)) ⟨(hown.stored j u).1, hset⟩ ((Step.refl S w).setCell (a := ⟨g, j, none⟩) (Or.inl ((hset g).2 rfl)) _)
theorem St.rowFresh (H : St B w0 w Ps) : St B w0 w (ARow e size (.slice none 0 0) 0 [] :: Ps) :=
  H.new (S' := fun _ => False) (ARow e size _ 0 []) (Row.nil w e size) (Step.refl (fun _ => False) w)
end
section
variable {t e : TypeId} {α : Type} {enc : α → Value}
abbrev gsl (r : Option Addr × Nat) (n : Nat) : Value := .slice r.1 n r.2
def gRow (e : TypeId) (enc : α → Value) (r : Option Addr × Nat) (row : List α) : Asn := ARow e 1 (gsl r row.length) row.length (row.map enc)
def gOuter (t : TypeId) (v : Value) (rs : List (Option Addr × Nat)) (rows : List (List α)) : Asn := ARow t 1 v rows.length (List.zipWith (fun r row => gsl r row.length) rs rows)
def gParts (t e : TypeId) (enc : α → Value) (v : Value) (rs : List (Option Addr × Nat)) (rows : List (List α)) : List Asn := gOuter t v rs rows :: List.zipWith (gRow e enc) rs rows
def AGrid (t e : TypeId) (enc : α → Value) (v : Value) (rows : List (List α)) : Asn := AEx (α := { rs : List (Option Addr × Nat) // rs.length = rows.length }) fun rs => AJoin (gParts t e enc v rs.1 rows)
variable {B : Nat} {w0 w w' : World} {Ps Qs : List Asn} {v : Value} {rows : List (List α)}
theorem St.gridOpen (h : St B w0 w (AGrid t e enc v rows :: Ps)) : ∃ rs, rs.length = rows.length ∧ St B w0 w (gParts t e enc v rs rows ++ Ps) := by
  obtain ⟨⟨rs, hl⟩, h⟩ := h.openE
  exact ⟨rs, hl, h.openJ⟩
theorem St.gridClose {rs : List (Option Addr × Nat)} (hl : rs.length = rows.length) (h : St B w0 w (gParts t e enc v rs rows ++ Ps)) : St B w0 w (AGrid t e enc v rows :: Ps) :=
  St.closeE (α := { rs : List (Option Addr × Nat) // rs.length = rows.length }) (P := fun rs => AJoin (gParts t e enc v rs.1 rows)) ⟨rs, hl⟩ h.closeJ
theorem zip_set {β γ δ : Type} (f : β → γ → δ) : ∀ (rs : List β) (xs : List γ) (i : Nat) (r : β) (x : γ), rs[i]? = some r → (List.zipWith f rs xs).set i (f r x) = List.zipWith f rs (xs.set i x)
  | [], _, _, _, _, h => by simp at h
  | _ :: _, [], i, _, _, _ => by simp
  | r :: rs, x :: xs, 0, _, _, h => by simp at h; subst h; simp
  | r :: rs, x :: xs, i + 1, _, _, h => by simp only [List.zipWith_cons_cons, List.set_cons_succ]; rw [zip_set f rs xs i _ _ (by simpa using h)]
theorem zip_at {β γ δ : Type} (f : β → γ → δ) (rs : List β) (xs : List γ) (i : Nat) (r : β) (x : γ) (h1 : rs[i]? = some r) (h2 : xs[i]? = some x) : (List.zipWith f rs xs)[i]? = some (f r x) := by
  rw [List.getElem?_zipWith, h1, h2]
theorem zip_same {β γ δ : Type} (f g : β → γ → δ) (rs : List β) (xs : List γ) (i : Nat) (x y : γ) (h1 : xs[i]? = some x) (h : ∀ r, f r x = f r y) : List.zipWith f rs (xs.set i y) = List.zipWith f rs xs := by
  apply List.ext_getElem?
  intro j
  rw [List.getElem?_zipWith, List.getElem?_zipWith]
  by_cases hj : i = j
  · subst hj
    rw [h1, List.getElem?_set_self (List.getElem?_eq_some_iff.1 h1).1]
    cases rs[i]? with
    | none => rfl
    | some r => simp [h r]
  · rw [List.getElem?_set_ne hj]
end
structure One (P : Program) (t e : TypeId) (z : Value) (bytes : Nat) : Prop where
  slice : P.underlying t = some (.slice e)
  info : (P.info? e).map (fun i => (i.zero, i.size, i.bytes)) = some (some z, 1, bytes)
  cell : z.cells.size = 1
theorem info_parts' {P : Program} {e : TypeId} {z : Value} {bytes : Nat} (h : (P.info? e).map (fun i => (i.zero, i.size, i.bytes)) = some (some z, 1, bytes)) : ∃ i, P.info? e = some i ∧ i.zero = some z ∧ i.size = 1 ∧ i.bytes = bytes := by
  obtain ⟨i, h1, h2⟩ := Option.map_eq_some_iff.1 h
  simp only [Prod.mk.injEq] at h2
  exact ⟨i, h1, h2.1, h2.2.1, h2.2.2⟩
section
variable {P : Program} {t e : TypeId} {z : Value} {bytes : Nat} {B : Nat} {w0 w : World} {Ps : List Asn} {v : Value}
theorem wpList_one_append {ops : Array Oper} {rest : List Oper} {o : Oper} {a : Act} {Q : Exit → Act → World → Prop} (O : One P t e z bytes) (hgd : o.guard = none) (s x : Operand)
    (ho : o.op = .call { callee := .builtin .append, args := #[s, x], argTypes := #[t, t] }) (H : St B w0 w Ps) (i : Nat) {n : Nat} {xs : List Value} (hi : Ps[i]? = some (ARow e 1 v n xs)) (hs : a.eval s = v)
    (bo : Addr) (y : Value) (hx : a.eval x = .slice (some bo) 1 1) (hbo : bo.spot = none) (hc : w.cell? bo = some y) (h1 : y.oneCell' = true) (b1 : n + 1 ≤ 100000000) (b2 : bytes ≤ 1000)
    (h : ∀ ao' cap' w', St B w0 w' (Ps.set i (ARow e 1 (.slice ao' (n + 1) cap') (n + 1) (xs ++ [y]))) → wpList P ops Q rest (a.put o.dst (.slice ao' (n + 1) cap')) w') : wpList P ops Q (o :: rest) a w := by
  obtain ⟨i0, hi0, hz0, hz1, hz2⟩ := info_parts' O.info
  obtain ⟨S, hS, _, put⟩ := H.at i hi
  refine wpList_append_row hgd s x t ho e i0 z 1 bytes O.slice hi0 hz0 hz1 hz2 O.cell (by decide) v n xs hs hS (some bo) 1 1 [y] hx (by intro h; cases h) rfl (fun a ha j u hu => ?_) (fun u hu => by simp at hu; subst hu; exact h1) (by unfold maxLen; omega) ?_ ?_
  · cases ha
    match j, hu with
    | 0, hu =>
      simp only [List.getElem?_cons_zero, Option.some.injEq] at hu
      subst hu
      obtain ⟨b, o, sp⟩ := bo
      simp only at hbo
      subst hbo
      exact hc
  · exact Nat.le_trans (Nat.mul_le_mul b1 b2) (by decide)
  · intro v' w' T' hrow hst
    obtain ⟨ao', cap', rfl, _⟩ := hrow.form
    exact h ao' cap' w' (put T' w' (ARow e 1 (.slice ao' (n + 1) cap') (n + 1) (xs ++ [y])) hrow hst)
theorem wpList_grid_append {ops : Array Oper} {rest : List Oper} {o : Oper} {a : Act} {Q : Exit → Act → World → Prop} {α : Type} {enc : α → Value} {t2 : TypeId} (O : One P t2 t z bytes) (hgd : o.guard = none) (s x : Operand)
    (ho : o.op = .call { callee := .builtin .append, args := #[s, x], argTypes := #[t2, t2] }) {row : List α} {rows : List (List α)} {ao : Option Addr} {cap : Nat} (H : St B w0 w (AGrid t e enc v rows :: ARow e 1 (.slice ao row.length cap) row.length (row.map enc) :: Ps)) (hs : a.eval s = v)
    (bo : Addr) (hx : a.eval x = .slice (some bo) 1 1) (hbo : bo.spot = none) (hc : w.cell? bo = some (.slice ao row.length cap)) (b1 : rows.length + 1 ≤ 100000000) (b2 : bytes ≤ 1000)
    (h : ∀ ao' cap' w', St B w0 w' (AGrid t e enc (.slice ao' (rows.length + 1) cap') (rows ++ [row]) :: Ps) → wpList P ops Q rest (a.put o.dst (.slice ao' (rows.length + 1) cap')) w') : wpList P ops Q (o :: rest) a w := by
  obtain ⟨rs, hl, hg⟩ := H.gridOpen
  refine wpList_one_append O hgd s x ho hg 0 (n := rows.length) (xs := List.zipWith (fun r row => gsl r row.length) rs rows) rfl hs bo _ hx hbo hc rfl b1 b2 ?_
  intro ao' cap' w' h'
  refine h ao' cap' w' (St.gridClose (rs := rs ++ [(ao, cap)]) (by simp [hl]) ?_)
  have e1 : gParts t e enc (.slice ao' (rows.length + 1) cap') (rs ++ [(ao, cap)]) (rows ++ [row]) ++ Ps
      = (gParts t e enc v rs rows ++ ARow e 1 (.slice ao row.length cap) row.length (row.map enc) :: Ps).set 0 (ARow t 1 (.slice ao' (rows.length + 1) cap') (rows.length + 1) (List.zipWith (fun r row => gsl r row.length) rs rows ++ [.slice ao row.length cap])) := by
    unfold gParts gOuter
    rw [List.zipWith_append hl, List.zipWith_append hl, List.length_append, List.length_singleton, List.cons_append, List.cons_append, List.set_cons_zero, List.append_assoc]
    rfl
  rw [e1]
  exact h'
theorem St.oneMake (O : One P t e z bytes) (H : St B w0 w Ps) (kl kc : IntKind) (n : Nat) (hn : n ≤ 100000000) (b2 : bytes ≤ 1000) (hz : z.cells = #[z]) :
    ∃ w' g, (Instr.makeSlice t (.int kl (n : Int)) (.int kc (n : Int))).run P w = .ok (.slice (some ⟨g, 0, none⟩) n n) w' ∧ St B w0 w' (ARow e 1 (.slice (some ⟨g, 0, none⟩) n n) n (List.replicate n z) :: Ps) := by
  obtain ⟨i0, hi, hz0, hz1, hz2⟩ := info_parts' O.info
  obtain ⟨w', hr, hown, hg⟩ := run_make_full (P := P) w 0 t e i0 z 1 O.slice hi hz0 hz1 kl kc n (by rw [hz2]; exact Nat.le_trans (Nat.mul_le_mul b2 hn) (by decide)) (by unfold maxLen; omega) (Nat.zero_le _)
  have em : (madeCells z.cells (n * 1)).toList = List.replicate n z := by
    rw [hz]
    unfold madeCells
    apply List.ext_getElem?
    intro i
    by_cases hi : i < n
    · simp [hi, Nat.mod_one]
    · simp [hi]
  rw [em] at hown
  refine ⟨w', w.heap.size, hr, H.new (S' := fun k => k = w.heap.size) (ARow e 1 _ n _) ⟨hown, fun k => by simp [Value.ownBlock, eq_comm]⟩ ?_⟩
  exact ((Step.refl (fun _ => False) w).grown hg (by intro k hk; cases hk)).to (fun k hk => .inr (Nat.le_of_eq hk.symm))
theorem St.gridNil {α : Type} {enc : α → Value} (H : St B w0 w Ps) : St B w0 w (AGrid t e enc (.slice none 0 0) [] :: Ps) :=
  St.gridClose (rs := []) rfl H.rowFresh
end
end Go.Own
end
section
namespace Go.Own
open Go.RowKit
theorem run_equalIn_ints {P : Program} (d : Nat) (t e : TypeId) (k : IntKind) (l m : List Int) (hlm : l.length = m.length) (ht : P.underlying t = some (.array l.length e)) (he : P.underlying e = some (.int k)) (hse : ∀ w, (sizeOf e).run P w = .ok 1 w) (ha : ∀ w, (isAgg e).run P w = .ok false w) (w : World) :
    (Op.equalIn (d + 2) t (.agg (l.map (Value.int k)).toArray) (.agg (m.map (Value.int k)).toArray)).run P w = .ok (decide (l = m)) w := by
  rw [show d + 2 = (d + 1) + 1 from rfl, Op.equalIn]
  simp only [Sem.run_bind, run_underlying ht, Result.andThen_ok]
  simp only [Std.Legacy.Range.forIn_eq_forIn_range', Std.Legacy.Range.size, Nat.sub_zero, Nat.add_sub_cancel, Nat.div_one]
  simp only [hse, Result.andThen_ok, Nat.mul_one]
  have part_at : ∀ (l : List Int) (j : Nat) (h : j < l.length), (part e (l.map (Value.int k)).toArray j).run P w = .ok (.int k l[j]) w := by
    intro l j h
    unfold part
    simp only [Sem.run_bind, ha, Result.andThen_ok]
    simp [h, go_sem]
  obtain ⟨g, hg⟩ : ∃ g : Nat → Option Bool × Unit → Sem (ForInStep (Option Bool × Unit)), g = (fun i __s => do
            let __do_lift ← part e (List.map (Value.int k) l).toArray i
            let __do_lift_1 ← part e (List.map (Value.int k) m).toArray i
            let __do_lift ← Op.equalIn (d + 1) e __do_lift __do_lift_1
            if (!__do_lift) = true then pure (ForInStep.done (some false, ())) else pure (ForInStep.yield (none, ()))) := ⟨_, rfl⟩
  have hrun : ∀ (j : Nat) (h1 : j < l.length) (h2 : j < m.length), (g j (none, ())).run P w = .ok (if l[j] = m[j] then ForInStep.yield (none, ()) else ForInStep.done (some false, ())) w := by
    intro j h1 h2
    rw [hg]
    simp only [Sem.run_bind, part_at l j h1, part_at m j h2, Result.andThen_ok, run_equalIn_int _ d e k k _ _ he]
    by_cases h : l[j] = m[j]
    · rw [if_pos h, h]; simp
    · rw [if_neg h]; simp [h]
  rw [← hg]
  clear hg
  have aux : ∀ (s j : Nat), j + s = l.length → (forIn (m := Sem) (List.range' j s) ((none, ()) : Option Bool × Unit) g).run P w =
      .ok (if l.drop j = m.drop j then (none, ()) else (some false, ())) w := by
    intro s
    induction s with
    | zero =>
      intro j hj
      rw [List.drop_eq_nil_of_le (by omega), List.drop_eq_nil_of_le (by omega)]
      simp
    | succ s ih =>
      intro j hj
      have h1 : j < l.length := by omega
      have h2 : j < m.length := by omega
      rw [List.range'_succ, List.forIn_cons, Sem.run_bind, hrun j h1 h2, Result.andThen_ok]
      have e1 : l.drop j = l[j] :: l.drop (j + 1) := List.drop_eq_getElem_cons h1
      have e2 : m.drop j = m[j] :: m.drop (j + 1) := List.drop_eq_getElem_cons h2
      by_cases h : l[j] = m[j]
      · rw [if_pos h]
        show (forIn (m := Sem) (List.range' (j + 1) s) ((none, ()) : Option Bool × Unit) g).run P w = _
        rw [ih (j + 1) (by omega), e1, e2, h]
        by_cases hd : l.drop (j + 1) = m.drop (j + 1)
        · rw [if_pos hd, if_pos (by rw [hd])]
        · rw [if_neg hd, if_neg (fun hc => hd (List.cons.inj hc).2)]
      · rw [if_neg h, if_neg]
        · simp
        · rw [e1, e2]
          intro hc
          exact h (List.cons.inj hc).1
  rw [aux l.length 0 (by omega)]
  simp only [List.drop_zero]
  by_cases h : l = m
  · simp [h]
  · simp [h]
end Go.Own
end
section
namespace Go.Own
open Go.RowKit
section
variable {B : Nat} {w0 : World} {e : TypeId} {size n cap : Nat}
theorem St.rowCells (i : Nat) {g : Nat} : ∀ (r : List Value) (o : Nat) (w : World) (Ps : List Asn) (xs : List Value), St B w0 w Ps → Ps[i]? = some (ARow e size (.slice (some ⟨g, 0, none⟩) n cap) n xs) → o + r.length ≤ n * size →
    St B w0 (w.setCells g o r) (Ps.set i (ARow e size (.slice (some ⟨g, 0, none⟩) n cap) n (xs.take o ++ r ++ xs.drop (o + r.length))))
  | [], o, w, Ps, l, h, hi, hl => by
    have ee : l.take o ++ [] ++ l.drop (o + ([] : List Value).length) = l := by simp
    rw [ee]
    have hs : Ps.set i (ARow e size (.slice (some ⟨g, 0, none⟩) n cap) n l) = Ps := by
      apply List.ext_getElem?
      intro j
      by_cases hj : j = i
      · subst hj
        rw [List.getElem?_set_self (List.getElem?_eq_some_iff.1 hi).1, hi]
      · rw [List.getElem?_set_ne (Ne.symm hj)]
    rw [hs]
    exact h
  | c :: r, o, w, Ps, l, h, hi, hl => by
    have hlen := (h.rowLen i hi).1
    have hon : o < n * size := by simp at hl; omega
    obtain ⟨g', hg', _, _, put⟩ := h.rowAt i hi o hon
    cases hg'
    have hlt : i < Ps.length := (List.getElem?_eq_some_iff.1 hi).1
    have h2 := St.rowCells i r (o + 1) _ _ (l.set o c) (put c) (by rw [List.getElem?_set_self hlt]) (by simp at hl ⊢; omega)
    rw [List.set_set] at h2
    have ee : (l.set o c).take (o + 1) ++ r ++ (l.set o c).drop (o + 1 + r.length) = l.take o ++ (c :: r) ++ l.drop (o + (c :: r).length) := by
      have ho : o < l.length := by omega
      have e0 : (l.set o c).take o = l.take o := by
        apply List.ext_getElem?
        intro j
        by_cases hj : j < o
        · rw [List.getElem?_take_of_lt hj, List.getElem?_take_of_lt hj, List.getElem?_set_ne (by omega)]
        · rw [List.getElem?_eq_none (by simp; omega), List.getElem?_eq_none (by simp; omega)]
      have e1 : (l.set o c).drop (o + 1 + r.length) = l.drop (o + (c :: r).length) := by
        apply List.ext_getElem?
        intro j
        rw [List.getElem?_drop, List.getElem?_drop, List.getElem?_set_ne (by omega)]
        congr 1
        simp
        omega
      rw [List.take_succ_eq_append_getElem (by simpa using ho), e0, e1]
      simp
    rw [ee] at h2
    exact h2
theorem St.rowRange {w : World} {Ps : List Asn} (H : St B w0 w Ps) (i : Nat) {g : Nat} {xs : List Value} (hi : Ps[i]? = some (ARow e size (.slice (some ⟨g, 0, none⟩) n cap) n xs)) (j : Nat) (hj : j < n * size) : w.cell? ⟨g, j, none⟩ = xs[j]? ∧ w.frozen? ⟨g, j, none⟩ = false := by
  obtain ⟨g', hg', ⟨u, hu, hc⟩, hf, _⟩ := H.rowAt i hi j hj
  cases hg'
  exact ⟨by rw [hc, hu], hf⟩
end
theorem flat_at {α : Type} (f : α → List Value) (c : Nat) : ∀ (L : List α), (∀ a ∈ L, (f a).length = c) → ∀ (k : Nat) (a : α), L[k]? = some a → ∀ j, j < c → (L.flatMap f)[k * c + j]? = (f a)[j]?
  | [], _, k, a, h, _, _ => by simp at h
  | x :: L, hl, 0, a, h, j, hj => by
    have h2 : x = a := by simpa using h
    subst h2
    have hx := hl x (List.mem_cons_self ..)
    rw [Nat.zero_mul, Nat.zero_add, List.flatMap_cons, List.getElem?_append_left (by omega)]
  | x :: L, hl, k + 1, a, h, j, hj => by
    have hx := hl x (List.mem_cons_self ..)
    rw [List.flatMap_cons, List.getElem?_append_right (by rw [hx, Nat.add_mul]; omega), hx, show (k + 1) * c + j - c = k * c + j by rw [Nat.add_mul]; omega]
    exact flat_at f c L (fun y hy => hl y (List.mem_cons_of_mem _ hy)) k a (by simpa using h) j hj
theorem flat_length {α : Type} (f : α → List Value) (c : Nat) : ∀ (L : List α), (∀ a ∈ L, (f a).length = c) → (L.flatMap f).length = L.length * c
  | [], _ => by simp
  | x :: L, hl => by
    rw [List.flatMap_cons, List.length_append, hl x (List.mem_cons_self ..), flat_length f c L (fun y hy => hl y (List.mem_cons_of_mem _ hy)), List.length_cons, Nat.add_mul, Nat.one_mul, Nat.add_comm]
theorem eqlNilIn {P : Program} (w : World) (d : Nat) (t e : TypeId) (a : Option Addr) (l c : Nat) (h : P.underlying t = some (.slice e)) : (Op.equalIn (d + 1) t (.slice a l c) (.slice none 0 0)).run P w = .ok a.isNone w := by
  cases a <;> simp [Op.equalIn, run_underlying h]
theorem eqlNil {P : Program} (w : World) (t e : TypeId) (a : Option Addr) (l c : Nat) (h : P.underlying t = some (.slice e)) : (binOp .eql t (.slice a l c) (.slice none 0 0)).run P w = .ok (.bool a.isNone) w := by
  have h2 : (Op.equal t (.slice a l c) (.slice none 0 0)).run P w = .ok a.isNone w := eqlNilIn w 9999 t e a l c h
  simp [binOp, h2]
structure Many (P : Program) (t e : TypeId) (size bytes : Nat) : Prop where
  slice : P.underlying t = some (.slice e)
  info : (P.info? e).map (fun i => (i.zero.map (·.cells.size), i.size, i.bytes)) = some (some size, size, bytes)
  pos : 0 < size
section
variable {P : Program} {B : Nat} {w0 w : World} {Ps : List Asn} {t e : TypeId} {size bytes : Nat}
theorem St.emptyRow (H : St B w0 w Ps) (e : TypeId) (size : Nat) : St B w0 (w.alloc (.cells #[] e)) (ARow e size (.slice (some ⟨w.heap.size, 0, none⟩) 0 0) 0 [] :: Ps) :=
  H.new (S' := fun k => k = w.heap.size) (ARow e size _ 0 []) (Row.made w (#[] : Array Value) e size 0 (Nat.zero_le _) (by simp)) (((Step.refl (fun _ => False) w).alloc (.cells #[] e)).to (fun k hk => .inr (Nat.le_of_eq hk.symm)))
theorem run_many_append (O : Many P t e size bytes) (H : St B w0 w Ps) (i : Nat) {v : Value} {n : Nat} {xs : List Value} (hi : Ps[i]? = some (ARow e size v n xs)) (ty : TypeId)
    (ao : Option Addr) (m c : Nat) (news : List Value) (hno : ao = none → m = 0 ∧ c = 0) (hl : news.length = m * size) (hc : ∀ a, ao = some a → ∀ j u, news[j]? = some u → w.cell? (a.add j) = some u) (h1 : ∀ u ∈ news, u.oneCell' = true) (b1 : n + m ≤ 1000000) (b2 : bytes ≤ 10000) :
    ∃ ao' cap' w', (Builtin.append_ #[t, t] ty #[v, .slice ao m c]).run P w = .ok (.slice ao' (n + m) cap') w' ∧ St B w0 w' (Ps.set i (ARow e size (.slice ao' (n + m) cap') (n + m) (xs ++ news))) := by
  obtain ⟨i0, hi0, hz⟩ := Option.map_eq_some_iff.1 O.info
  simp only [Prod.mk.injEq] at hz
  obtain ⟨hz0, hz1, hz2⟩ := hz
  obtain ⟨z, hz3, hz4⟩ := Option.map_eq_some_iff.1 hz0
  obtain ⟨S, hS, _, put⟩ := H.at i hi
  obtain ⟨v', w', T', hr, hrow, hst⟩ := run_append_row (P := P) w t ty e i0 z size bytes O.slice hi0 hz3 hz1 hz2 hz4 O.pos v n xs hS ao m c news hno hl hc h1 (by unfold maxLen; omega) (Nat.le_trans (Nat.mul_le_mul b1 b2) (by decide))
  obtain ⟨ao', cap', rfl, _⟩ := hrow.form
  exact ⟨ao', cap', w', hr, put T' w' (ARow e size (.slice ao' (n + m) cap') (n + m) (xs ++ news)) hrow hst⟩
theorem wpList_many_append {ops : Array Oper} {rest : List Oper} {o : Oper} {a : Act} {Q : Exit → Act → World → Prop} (O : Many P t e size bytes) (hgd : o.guard = none) (s x : Operand)
    (ho : o.op = .call { callee := .builtin .append, args := #[s, x], argTypes := #[t, t] }) (H : St B w0 w Ps) (i : Nat) {v : Value} {n : Nat} {xs : List Value} (hi : Ps[i]? = some (ARow e size v n xs)) (hs : a.eval s = v)
    (ao : Option Addr) (m c : Nat) (news : List Value) (hx : a.eval x = .slice ao m c) (hno : ao = none → m = 0 ∧ c = 0) (hl : news.length = m * size) (hc : ∀ a, ao = some a → ∀ j u, news[j]? = some u → w.cell? (a.add j) = some u) (h1 : ∀ u ∈ news, u.oneCell' = true) (b1 : n + m ≤ 1000000) (b2 : bytes ≤ 10000)
    (h : ∀ ao' cap' w', St B w0 w' (Ps.set i (ARow e size (.slice ao' (n + m) cap') (n + m) (xs ++ news))) → wpList P ops Q rest (a.put o.dst (.slice ao' (n + m) cap')) w') : wpList P ops Q (o :: rest) a w := by
  refine wpList_plain hgd fun K hK => ?_
  obtain ⟨ao', cap', w', hrun, h1⟩ := run_many_append O H i hi o.type ao m c news hno hl hc h1 b1 b2
  unfold Oper.wp
  simp [execOp, ho, resolve, invoke, builtin, hs, hx, hrun, Result.andThen]
  exact hK _ _ (h ao' cap' w' h1)
theorem St.rowNews {n cap : Nat} {ao : Option Addr} {xs : List Value} (H : St B w0 w Ps) (i : Nat) (hi : Ps[i]? = some (ARow e size (.slice ao n cap) n xs)) : ∀ a, ao = some a → ∀ j u, xs[j]? = some u → w.cell? (a.add j) = some u := by
  intro a ha j u hu
  subst ha
  have hl := (H.rowLen i hi).1
  have hj := (List.getElem?_eq_some_iff.1 hu).1
  obtain ⟨g, hg, ⟨x, hx, hc⟩, _, _⟩ := H.rowAt i hi j (by omega)
  cases hg
  rw [add_of, Nat.zero_add, hc, ← hx, hu]
theorem St.perm_app {Xs Ys Zs : List Asn} (h : St B w0 w (Xs ++ (Ys ++ Zs))) : St B w0 w (Ys ++ (Zs ++ Xs)) := h.perm (by
  have : (Xs ++ (Ys ++ Zs)).Perm ((Ys ++ Zs) ++ Xs) := List.perm_append_comm
  rwa [List.append_assoc] at this)
end
section
variable {P : Program} {t e : TypeId} {size bytes : Nat} {B : Nat} {w0 w : World} {Ps : List Asn}
theorem St.manyMake {zs : List Value} {z : Value} (O : Many P t e size bytes) (hz : (P.info? e).bind (·.zero) = some z) (hzs : z.cells = zs.toArray) (H : St B w0 w Ps) (kl kc : IntKind) (n : Nat) (hn : n ≤ 100000) (b2 : bytes ≤ 10000) :
    ∃ w' g, (Instr.makeSlice t (.int kl (n : Int)) (.int kc (n : Int))).run P w = .ok (.slice (some ⟨g, 0, none⟩) n n) w' ∧ St B w0 w' (ARow e size (.slice (some ⟨g, 0, none⟩) n n) n ((List.replicate n zs).flatten) :: Ps) := by
  obtain ⟨i0, hi0, hq⟩ := Option.map_eq_some_iff.1 O.info
  simp only [Prod.mk.injEq] at hq
  obtain ⟨hz0, hz1, hz2⟩ := hq
  obtain ⟨z', hz3, hz4⟩ := Option.map_eq_some_iff.1 hz0
  have hzz : z' = z := by rw [hi0] at hz; simp only [Option.bind_some] at hz; rw [hz3] at hz; exact Option.some.inj hz
  subst hzz
  obtain ⟨w', hr, hown, hg⟩ := run_make_full (P := P) w 0 t e i0 z' size O.slice hi0 hz3 hz1 kl kc n (by rw [hz2]; exact Nat.le_trans (Nat.mul_le_mul b2 hn) (by decide)) (by unfold maxLen; omega) (Nat.zero_le _)
  have hzl : zs.length = size := by rw [hzs] at hz4; simpa using hz4
  have em : (madeCells z'.cells (n * size)).toList = (List.replicate n zs).flatten := by
    rw [hzs]
    unfold madeCells
    have hfl : (List.replicate n zs).flatten = (List.replicate n ()).flatMap (fun _ => zs) := by rw [List.flatMap_def, List.map_replicate]
    rw [hfl]
    apply List.ext_getElem?
    intro i
    by_cases hi : i < n * size
    · have hpos := O.pos
      have hk : i / size < n := (Nat.div_lt_iff_lt_mul hpos).2 hi
      have hm := Nat.mod_lt i hpos
      have h1 := flat_at (fun _ : Unit => zs) size (List.replicate n ()) (fun _ _ => hzl) (i / size) () (by simp [hk]) (i % size) hm
      rw [Nat.mul_comm, Nat.div_add_mod] at h1
      rw [h1]
      simp [hi, hzl, hm]
    · have h1 := flat_length (fun _ : Unit => zs) size (List.replicate n ()) (fun _ _ => hzl)
      rw [List.length_replicate] at h1
      rw [List.getElem?_eq_none (by simp; omega), List.getElem?_eq_none (by omega)]
  rw [em] at hown
  refine ⟨w', w.heap.size, hr, H.new (S' := fun k => k = w.heap.size) (ARow e size _ n _) ⟨hown, fun k => by simp [Value.ownBlock, eq_comm]⟩ ?_⟩
  exact ((Step.refl (fun _ => False) w).grown hg (by intro k hk; cases hk)).to (fun k hk => .inr (Nat.le_of_eq hk.symm))
end
theorem wpList_allocZ {P : Program} {ops : Array Oper} {rest : List Oper} {o : Oper} {a : Act} {w : World} {Q : Exit → Act → World → Prop} (hgd : o.guard = none) (ty : TypeId) (ho : o.op = .alloc ty) (z : Array Value) (hz : (P.info? ty).bind (·.zero) = some (.agg z))
    (h : wpList P ops Q rest (a.put o.dst (.pointer (some ⟨w.heap.size, 0, none⟩))) (w.alloc (.cells z ty))) : wpList P ops Q (o :: rest) a w := by
  refine wpList_plain hgd fun K hK => ?_
  obtain ⟨i, hi, hi2⟩ := Option.bind_eq_some_iff.1 hz
  unfold Oper.wp
  simp [execOp, ho, Instr.alloc, zeroValue, typeInfo, hi, hi2, Result.andThen]
  exact hK _ _ h
theorem wpList_built {P : Program} {ops : Array Oper} {rest : List Oper} {o : Oper} {a : Go.Act} {w : World} {Q : Exit → Go.Act → World → Prop} (hgd : o.guard = none) (t : TypeId) (parts : Array (Nat × Operand)) (ho : o.op = .build t parts) (cells : Array Value)
    (hf : P.built t (parts.map fun (i, x) => (i, a.eval x)).toList = some cells) (h : wpList P ops Q rest (a.put o.dst (.agg cells)) w) : wpList P ops Q (o :: rest) a w := by
  refine wpList_plain hgd fun K hK => ?_
  have := run_build w t (parts.map fun (i, x) => (i, a.eval x)) cells hf
  unfold Oper.wp
  simp [execOp, ho, this, Result.andThen]
  exact hK _ _ h
end Go.Own
end
