/- What arguments are in memory: plain data in the cells that came in, below block B. -/
import Derived.Test.YtefbcoakjdjkgaaHeap
import Derived.Test.YtefbcoakjdjkgaaStr
import Derived.Deep.Slices
import Derived.OpenShut
namespace Go.Own
open Go.RowKit Go.ChangeShapes Go.WideShapes Go.Deep

/-- what is so of the cells of a value of one type, in a world, for plain data -/
abbrev InT (α : Type) := α → Nat → World → List Value → Prop

def inInt (k : IntKind) : InT Int := fun n _ _ cs => cs = [.int k n] ∧ (Lit.int k n).wf = true
def inBool : InT Bool := fun b _ _ cs => cs = [.bool b]
def inStr : InT ByteArray := fun s _ _ cs => cs = [.string s] ∧ s.size ≤ maxLen

/-- a slice: nil, or empty, or leading to its elements -/
def inSlice {α : Type} (size : Nat) (R : InT α) : InT (List α) := fun xs B w cs =>
  ∃ ao cap, cs = [.slice ao xs.length cap] ∧ xs.length ≤ cap ∧ cap ≤ maxLen ∧ (ao = none → cap = 0) ∧
    (xs = [] ∨ ∃ b o, ao = some ⟨b, o, none⟩ ∧ b < B ∧ b < w.heap.size ∧ ∀ i (hi : i < xs.length), ∃ cs', cs'.length = size ∧ (∀ j, j < size → w.cell? ⟨b, o + (i * size + j), none⟩ = cs'[j]?) ∧ R xs[i] B w cs')
def inBytes : InT (List UInt8) := fun l B w cs =>
  ∃ ao cap, cs = [.slice ao l.length cap] ∧ l.length ≤ cap ∧ cap ≤ maxLen ∧ (ao = none → cap = 0) ∧ View w (fun k => k < B) ao l

/-- it is so in every later world in which old memory is as it was -/
def Stable {α : Type} (R : InT α) : Prop := ∀ a B w w' cs, R a B w cs → Below B w w' → R a B w' cs

theorem stable_int (k : IntKind) : Stable (inInt k) := fun _ _ _ _ _ h _ => h
theorem stable_bool : Stable inBool := fun _ _ _ _ _ h _ => h
theorem stable_str : Stable inStr := fun _ _ _ _ _ h _ => h
theorem stable_bytes : Stable inBytes := fun _ _ _ _ _ ⟨ao, cap, h1, h2, h3, h4, h5⟩ g => ⟨ao, cap, h1, h2, h3, h4, h5.below g⟩
theorem stable_slice {α : Type} {size : Nat} {R : InT α} (hR : Stable R) : Stable (inSlice size R) := by
  rintro xs B w w' cs ⟨ao, cap, h1, h2, h3, h4, h5⟩ g
  refine ⟨ao, cap, h1, h2, h3, h4, h5.imp id ?_⟩
  rintro ⟨b, o, e, hb, hs, hc⟩
  refine ⟨b, o, e, hb, Nat.lt_of_lt_of_le hs g.size, fun i hi => ?_⟩
  obtain ⟨cs', k1, k2, k3⟩ := hc i hi
  exact ⟨cs', k1, fun j hj => (World.cell?_of_block (w := w) (g.block b hb)).trans (k2 j hj), hR _ _ _ _ _ k3 g⟩

/-- the form's own reading of a value of type t gives it -/
def Opens {α : Type} (P : Program) (t : TypeId) (R : InT α) : Prop :=
  ∀ (H : Type) (enc : TypeId × Value → H) (w : World) (fuel : Nat) (cs : List Value) (x : DataW H × List MemPlace),
    DataW.trod enc P w 0 (fun _ => true) true fuel t cs = some x → ∃ a, R a w.heap.size w cs

theorem opens_int {P : Program} {t : TypeId} {k : IntKind} (ht : P.underlying t = some (.int k)) : Opens P t (inInt k) := by
  intro H enc w fuel cs x h
  obtain ⟨n, rfl, _, hw⟩ := DataW.trod_int ht h
  exact ⟨n, rfl, hw⟩
theorem opens_bool {P : Program} {t : TypeId} (ht : P.underlying t = some .bool) : Opens P t inBool := by
  intro H enc w fuel cs x h
  obtain ⟨b, rfl, _⟩ := DataW.trod_bool ht h
  exact ⟨b, rfl⟩
theorem opens_str {P : Program} {t : TypeId} (ht : P.underlying t = some .string) : Opens P t inStr := by
  intro H enc w fuel cs x h
  obtain ⟨s, rfl, _, hs⟩ := DataW.trod_string ht h
  exact ⟨s, rfl, hs⟩

theorem add_of (b o j : Nat) : (⟨b, o, none⟩ : Addr).add j = ⟨b, o + j, none⟩ := by unfold Addr.add; split <;> simp_all

/-- elements, one by one, as one list -/
theorem list_of {α : Type} {n : Nat} {p : Nat → α → Prop} (h : ∀ i, i < n → ∃ x, p i x) : ∃ xs : List α, xs.length = n ∧ ∀ i (hi : i < xs.length), p i xs[i] := by
  induction n with
  | zero => exact ⟨[], rfl, fun i hi => absurd hi (Nat.not_lt_zero _)⟩
  | succ n ih =>
    obtain ⟨xs, h1, h2⟩ := ih (fun i hi => h i (by omega))
    obtain ⟨x, hx⟩ := h n (by omega)
    refine ⟨xs ++ [x], by simp [h1], fun i hi => ?_⟩
    by_cases hin : i < xs.length
    · rw [List.getElem_append_left hin]; exact h2 i hin
    · have : i = n := by simp at hi; omega
      subst this
      rw [List.getElem_append_right (by omega)]
      simpa [h1] using hx

theorem opens_slice {α : Type} {P : Program} {t e : TypeId} {R : InT α} (size : Nat) (ht : P.underlying t = some (.slice e)) (hc : P.cellsOf e = size) (hpos : 0 < size) (hR : Opens P e R) : Opens P t (inSlice size R) := by
  intro H enc w fuel cs x h
  rcases open_slice ht h with ⟨rfl, _⟩ | ⟨a, len, cap, m, n, D, Pl, rfl, _, h1, h2, hm, _, hel⟩
  · exact ⟨[], none, 0, rfl, Nat.le_refl _, by unfold maxLen; omega, fun _ => rfl, .inl rfl⟩
  · simp only [if_true] at hm
    subst hm
    rw [hc] at hel
    obtain ⟨xs, k1, k2⟩ := list_of (n := len) (p := fun i (y : α) => ∃ cs', cs'.length = size ∧ (∀ j, j < size → w.cell? ((a.add (i * size)).add j) = cs'[j]?) ∧ R y w.heap.size w cs') (fun i hi => by
      obtain ⟨cs', hcs, hd⟩ := hel i (by omega)
      obtain ⟨y, hy⟩ := hR H enc w n cs' _ hd
      obtain ⟨_, g1, g2⟩ := World.cells?_some hcs
      exact ⟨y, cs', g1, g2, hy⟩)
    subst k1
    refine ⟨xs, some a, m, rfl, h1, h2, fun h => by (cases h), ?_⟩
    rcases Nat.eq_zero_or_pos xs.length with hz | hz
    · exact .inl (List.eq_nil_of_length_eq_zero hz)
    · right
      obtain ⟨b, o, sp⟩ := a
      obtain ⟨cs', g1, g2, _⟩ := k2 0 hz
      have g3 := g2 0 hpos
      have e0 : ((⟨b, o, sp⟩ : Addr).add (0 * size)).add 0 = ⟨b, o, sp⟩ := by simp [Addr.add]
      rw [e0] at g3
      obtain ⟨u, hu⟩ : ∃ u, cs'[0]? = some u := ⟨cs'[0]'(by omega), by simp [show 0 < cs'.length by omega]⟩
      rw [hu] at g3
      have hsp : sp = none := by
        cases sp with
        | none => rfl
        | some s =>
          unfold World.cell? at g3
          split at g3 <;> simp at g3
      subst hsp
      have hlt := World.block_lt_of_cell? w _ g3
      refine ⟨b, o, rfl, hlt, hlt, fun i hi => ?_⟩
      obtain ⟨cs'', f1, f2, f3⟩ := k2 i hi
      exact ⟨cs'', f1, fun j hj => by rw [← f2 j hj, add_of, add_of, Nat.add_assoc], f3⟩

theorem opens_bytes {P : Program} {t e : TypeId} (ht : P.underlying t = some (.slice e)) (he : P.underlying e = some (.int .u8)) (hc : P.cellsOf e = 1) : Opens P t inBytes := by
  intro H enc w fuel cs x h
  obtain ⟨zs, ao, cap, h1, h2, h3, h4, h5⟩ := opens_slice 1 ht hc (by decide) (opens_int he) H enc w fuel cs x h
  refine ⟨zs.map fun z => UInt8.ofNat z.toNat, ao, cap, by simpa using h1, by simpa using h2, h3, h4, ?_⟩
  rcases h5 with rfl | ⟨b, o, e, hb, hs, hcell⟩
  · exact .inl rfl
  · refine .inr ⟨b, o, e, hb, hs, fun j hj => ?_⟩
    rw [List.length_map] at hj
    obtain ⟨cs', g1, g2, g3, g4⟩ := hcell j hj
    subst g3
    have := g2 0 (by decide)
    rw [Nat.mul_one, Nat.add_zero] at this
    rw [this]
    have hw : 0 ≤ zs[j] ∧ zs[j] ≤ 255 := by simpa [Lit.wf, IntKind.min, IntKind.max, IntKind.signed, IntKind.bits] using g4
    have e2 : ((zs.map fun z => UInt8.ofNat z.toNat).getD j 0) = UInt8.ofNat zs[j].toNat := by simp [List.getD, hj]
    rw [e2]
    simp
    omega

/-- the fields of a struct, one behind the other -/
theorem opens_fields {P : Program} {t : TypeId} {fs : Array Field} {H : Type} {enc : TypeId × Value → H} {w : World} {fuel : Nat} {cs : List Value} {x : DataW H × List MemPlace} (ht : P.underlying t = some (.struct fs))
    (h : DataW.trod enc P w 0 (fun _ => true) true fuel t cs = some x) :
    cs.length = P.cellsOf t ∧ ∀ (i : Nat) (f : Field), fs[i]? = some f → ∃ n y, DataW.trod enc P w 0 (fun _ => true) true n f.type ((cs.drop f.offset).take (P.cellsOf f.type)) = some y := by
  obtain ⟨xs, n, _, _, hl, hlen, hf⟩ := DataW.trod_struct ht h
  refine ⟨hl, fun i f hi => ?_⟩
  have := hf i f hi
  have hlt : i < xs.length := by rw [hlen]; exact (Array.getElem?_eq_some_iff.1 hi).1
  rw [List.getElem?_eq_getElem hlt] at this
  exact ⟨n, _, this⟩

/-- an array of numbers, by value -/
def inInts (k : IntKind) (n : Nat) : InT (List Int) := fun l _ _ cs => cs = l.map (Value.int k) ∧ l.length = n ∧ ∀ i (h : i < l.length), (Lit.int k l[i]).wf = true
theorem stable_ints (k : IntKind) (n : Nat) : Stable (inInts k n) := fun _ _ _ _ _ h _ => h

theorem opens_ints {P : Program} {t e : TypeId} {k : IntKind} {n : Nat} (ht : P.underlying t = some (.array n e)) (he : P.underlying e = some (.int k)) (hce : P.cellsOf e = 1) (hct : P.cellsOf t = n) : Opens P t (inInts k n) := by
  intro H enc w fuel cs x h
  obtain ⟨xs, m, _, _, hl, hlen, hf⟩ := DataW.trod_array ht h
  rw [hct] at hl
  rw [hce] at hf
  obtain ⟨zs, h1, h2⟩ := list_of (n := n) (p := fun i (z : Int) => cs[i]? = some (.int k z) ∧ (Lit.int k z).wf = true) (fun i hi => by
    have h3 := hf i hi
    rw [List.getElem?_eq_getElem (show i < xs.length by omega)] at h3
    obtain ⟨z, hz, _, hw⟩ := DataW.trod_int he h3
    refine ⟨z, ?_, hw⟩
    have hi' : i < cs.length := by omega
    rw [Nat.mul_one, List.drop_eq_getElem_cons hi'] at hz
    rw [List.getElem?_eq_getElem hi']
    rw [List.take_succ_cons] at hz
    exact congrArg some (List.cons.inj hz).1)
  refine ⟨zs, ?_, h1, fun i hi => (h2 i hi).2⟩
  apply List.ext_getElem?
  intro i
  by_cases hi : i < n
  · rw [(h2 i (by omega)).1]
    simp [show i < zs.length by omega]
  · rw [List.getElem?_eq_none (by omega), List.getElem?_eq_none (by simp; omega)]

/-- an array of bytes, by value -/
def inBytesA (n : Nat) : InT (List UInt8) := fun l _ _ cs => cs = l.map byteV ∧ l.length = n
theorem opens_bytesA {P : Program} {t e : TypeId} {n : Nat} (ht : P.underlying t = some (.array n e)) (he : P.underlying e = some (.int .u8)) (hce : P.cellsOf e = 1) (hct : P.cellsOf t = n) : Opens P t (inBytesA n) := by
  intro H enc w fuel cs x h
  obtain ⟨zs, h1, h2, h3⟩ := opens_ints ht he hce hct H enc w fuel cs x h
  refine ⟨zs.map fun z => UInt8.ofNat z.toNat, ?_, by simpa using h2⟩
  rw [h1, List.map_map]
  apply List.ext_getElem?
  intro i
  by_cases hi : i < zs.length
  · have hw : 0 ≤ zs[i] ∧ zs[i] ≤ 255 := by simpa [Lit.wf, IntKind.min, IntKind.max, IntKind.signed, IntKind.bits] using h3 i hi
    simp [hi, byteV]
    omega
  · simp [hi]

end Go.Own
