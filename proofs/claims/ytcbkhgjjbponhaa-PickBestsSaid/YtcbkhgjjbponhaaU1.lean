/- Merged: PicM TabM Own Heap Obj Arr In Byt Giv Lax Cpy Roc LaxF TabR Cod CodC CodS TabRd Rdw Bx -/
import Derived.WalkKit
import Derived.Deep.RegionLaw
import Derived.Deep.Draws
import Derived.Deep.MidRow
import Derived.Laws.Rows
import Derived.Lib.SlBytesRow
import Derived.Lib.Strings
import Derived.Deep.Slices
import Derived.OpenShut
import Derived.Test.YtcbkhgjjbponhaaRows
import Derived.OwnWalk
import Derived.Still
import Derived.Laws.IdiomCopy
import Derived.Laws.StructEq
import Derived.Laws.Cover2
import Derived.BigQuiet
import Derived.BigRegion
import Derived.Deep.QuietTactic
import Derived.Lib.Hide
import Derived.Deep.DeepMust
import Derived.WalkSpells
import Derived.WalkLawsBesides
import Derived.ArgAppend
set_option linter.unusedVariables false
section
namespace Go.PicM
structure Cn where
  seg : Int
  live : Int
  pages : Int
  age : Nat
structure Fits (c : Cn) : Prop where
  seg : -9223372036854775808 ≤ c.seg ∧ c.seg ≤ 9223372036854775807
  live : -9223372036854775808 ≤ c.live ∧ c.live ≤ 9223372036854775807
  pages : -9223372036854775808 ≤ c.pages ∧ c.pages ≤ 9223372036854775807
  age : c.age < 18446744073709551616
def zeroC : Cn := ⟨0, 0, 0, 0⟩
def right (c : Cn) : Bool := decide (1 ≤ c.pages) && decide (c.pages ≤ 64) && decide (0 ≤ c.live) && decide (c.live ≤ c.pages)
def gains (c : Cn) : Bool := right c && decide (c.live < c.pages)
def gainN (c : Cn) : Nat := (c.pages - c.live).toNat * (min c.age 4294967296 + 1)
def score (a b : Cn) : Nat := gainN a * (b.live + 1).toNat
def better (a b : Cn) : Bool := if gains a && gains b then decide (score b a < score a b) || (decide (score a b = score b a) && decide (a.seg < b.seg)) else gains a
theorem right_iff {c : Cn} : right c = true ↔ 1 ≤ c.pages ∧ c.pages ≤ 64 ∧ 0 ≤ c.live ∧ c.live ≤ c.pages := by
  unfold right
  simp only [Bool.and_eq_true, decide_eq_true_eq, and_assoc]
theorem gains_iff {c : Cn} : gains c = true ↔ 1 ≤ c.pages ∧ c.pages ≤ 64 ∧ 0 ≤ c.live ∧ c.live < c.pages := by
  unfold gains
  simp only [Bool.and_eq_true, right_iff, decide_eq_true_eq]
  omega
theorem better_gains {a b : Cn} (h : better a b = true) : gains a = true := by
  unfold better at h
  by_cases hg : (gains a && gains b) = true
  · simp only [Bool.and_eq_true] at hg; exact hg.1
  · rw [if_neg hg] at h; exact h
theorem gain_pos {c : Cn} (h : gains c = true) : 0 < gainN c := by
  have := gains_iff.1 h
  unfold gainN
  exact Nat.mul_pos (by omega) (Nat.succ_pos _)
theorem gain_le {c : Cn} (h : gains c = true) : gainN c ≤ 64 * 4294967297 := by
  have := gains_iff.1 h
  unfold gainN
  exact Nat.mul_le_mul (by omega) (by omega)
theorem better_self (a : Cn) : better a a = false := by
  unfold better
  cases hg : gains a
  · rfl
  · simp
theorem better_both {a b : Cn} (ha : gains a = true) (hb : gains b = true) : better a b = true ↔ score b a < score a b ∨ (score a b = score b a ∧ a.seg < b.seg) := by
  unfold better
  rw [ha, hb]
  simp
theorem better_left {a b : Cn} (ha : gains a = true) (hb : gains b = false) : better a b = true := by
  unfold better
  rw [ha, hb]
  rfl
theorem better_asym {a b : Cn} (h : better a b = true) : better b a = false := by
  have ha := better_gains h
  cases hb : gains b
  · unfold better; rw [hb]; rfl
  · cases h2 : better b a
    · rfl
    · rw [better_both ha hb] at h
      rw [better_both hb ha] at h2
      omega
theorem cross_le {g h k p q r : Nat} (hq : 0 < q) (h1 : h * p ≤ g * q) (h2 : k * q ≤ h * r) : k * p ≤ g * r := by
  have a1 : h * p * r ≤ g * q * r := Nat.mul_le_mul_right r h1
  have a3 : k * q * p ≤ h * r * p := Nat.mul_le_mul_right p h2
  have e1 : h * p * r = h * r * p := by rw [Nat.mul_assoc, Nat.mul_comm p r, ← Nat.mul_assoc]
  have e2 : k * q * p = k * p * q := by rw [Nat.mul_assoc, Nat.mul_comm q p, ← Nat.mul_assoc]
  have e3 : g * q * r = g * r * q := by rw [Nat.mul_assoc, Nat.mul_comm q r, ← Nat.mul_assoc]
  rw [e1] at a1
  rw [e2] at a3
  rw [e3] at a1
  exact Nat.le_of_mul_le_mul_right (Nat.le_trans a3 a1) hq
theorem better_trans {a b c : Cn} (h1 : better a b = true) (h2 : better b c = true) : better a c = true := by
  have ha := better_gains h1
  have hb := better_gains h2
  cases hc : gains c
  · exact better_left ha hc
  · rw [better_both ha hb] at h1
    rw [better_both hb hc] at h2
    rw [better_both ha hc]
    have gb := gain_pos hb
    have la := gains_iff.1 ha
    have lb := gains_iff.1 hb
    have lc := gains_iff.1 hc
    unfold score at *
    -- score x y = gainN x * (y.live + 1)
    have pa : 0 < (a.live + 1).toNat := by omega
    have pb : 0 < (b.live + 1).toNat := by omega
    have pc : 0 < (c.live + 1).toNat := by omega
    have w1 : gainN b * (a.live + 1).toNat ≤ gainN a * (b.live + 1).toNat := by omega
    have w2 : gainN c * (b.live + 1).toNat ≤ gainN b * (c.live + 1).toNat := by omega
    have w3 := cross_le pb w1 w2
    rcases Nat.lt_or_ge (gainN c * (a.live + 1).toNat) (gainN a * (c.live + 1).toNat) with h | h
    · exact .inl h
    · have e : gainN a * (c.live + 1).toNat = gainN c * (a.live + 1).toNat := Nat.le_antisymm h w3
      refine .inr ⟨e, ?_⟩
      -- equality in the product: both were equalities
      have s1 : ¬ gainN b * (a.live + 1).toNat < gainN a * (b.live + 1).toNat := by
        intro hlt
        have a2 : gainN b * (a.live + 1).toNat * (c.live + 1).toNat < gainN a * (b.live + 1).toNat * (c.live + 1).toNat := Nat.mul_lt_mul_of_pos_right hlt pc
        have a3 : gainN c * (b.live + 1).toNat * (a.live + 1).toNat ≤ gainN b * (c.live + 1).toNat * (a.live + 1).toNat := Nat.mul_le_mul_right _ w2
        have e1 : gainN b * (a.live + 1).toNat * (c.live + 1).toNat = gainN b * (c.live + 1).toNat * (a.live + 1).toNat := Nat.mul_right_comm _ _ _
        have e2 : gainN c * (b.live + 1).toNat * (a.live + 1).toNat = gainN c * (a.live + 1).toNat * (b.live + 1).toNat := Nat.mul_right_comm _ _ _
        have e3 : gainN a * (b.live + 1).toNat * (c.live + 1).toNat = gainN a * (c.live + 1).toNat * (b.live + 1).toNat := Nat.mul_right_comm _ _ _
        rw [e3, e] at a2
        rw [e2] at a3
        omega
      have s2 : ¬ gainN c * (b.live + 1).toNat < gainN b * (c.live + 1).toNat := by
        intro hlt
        have a2 : gainN c * (b.live + 1).toNat * (a.live + 1).toNat < gainN b * (c.live + 1).toNat * (a.live + 1).toNat := Nat.mul_lt_mul_of_pos_right hlt pa
        have a3 : gainN b * (a.live + 1).toNat * (c.live + 1).toNat ≤ gainN a * (b.live + 1).toNat * (c.live + 1).toNat := Nat.mul_le_mul_right _ w1
        have e1 : gainN b * (a.live + 1).toNat * (c.live + 1).toNat = gainN b * (c.live + 1).toNat * (a.live + 1).toNat := Nat.mul_right_comm _ _ _
        have e2 : gainN c * (b.live + 1).toNat * (a.live + 1).toNat = gainN c * (a.live + 1).toNat * (b.live + 1).toNat := Nat.mul_right_comm _ _ _
        have e3 : gainN a * (b.live + 1).toNat * (c.live + 1).toNat = gainN a * (c.live + 1).toNat * (b.live + 1).toNat := Nat.mul_right_comm _ _ _
        rw [e2] at a2
        rw [e3, e, e1] at a3
        omega
      omega
/-- of two none of which is better than the other, both are less than whatever one is -/
theorem better_alike {x y k : Cn} (hx : gains x = true) (hy : gains y = true) (n1 : better x y = false) (n2 : better y x = false) (hb : better k x = true) : better k y = true := by
  have gk := better_gains hb
  rw [better_both gk hx] at hb
  rw [better_both gk hy]
  have n1 : ¬ better x y = true := by rw [n1]; simp
  have n2 : ¬ better y x = true := by rw [n2]; simp
  rw [better_both hx hy] at n1
  rw [better_both hy hx] at n2
  have lk := gains_iff.1 gk
  have lx := gains_iff.1 hx
  have ly := gains_iff.1 hy
  unfold score at *
  have pk : 0 < (k.live + 1).toNat := by omega
  have px : 0 < (x.live + 1).toNat := by omega
  have py : 0 < (y.live + 1).toNat := by omega
  have e1 : gainN x * (y.live + 1).toNat = gainN y * (x.live + 1).toNat := by omega
  have e1' : gainN y * (x.live + 1).toNat * (k.live + 1).toNat = gainN y * (k.live + 1).toNat * (x.live + 1).toNat := Nat.mul_right_comm _ _ _
  have e2 : gainN k * (y.live + 1).toNat * (x.live + 1).toNat = gainN k * (x.live + 1).toNat * (y.live + 1).toNat := Nat.mul_right_comm _ _ _
  have e3 : gainN x * (k.live + 1).toNat * (y.live + 1).toNat = gainN x * (y.live + 1).toNat * (k.live + 1).toNat := Nat.mul_right_comm _ _ _
  rcases hb with hb | ⟨hb, hs⟩
  · left
    have a1 : gainN x * (k.live + 1).toNat * (y.live + 1).toNat < gainN k * (x.live + 1).toNat * (y.live + 1).toNat := Nat.mul_lt_mul_of_pos_right hb py
    rw [e3, e1, e1', ← e2] at a1
    exact Nat.lt_of_mul_lt_mul_right a1
  · right
    refine ⟨?_, by omega⟩
    have a1 : gainN k * (x.live + 1).toNat * (y.live + 1).toNat = gainN x * (k.live + 1).toNat * (y.live + 1).toNat := by rw [hb]
    rw [e3, e1, e1', ← e2] at a1
    exact Nat.eq_of_mul_eq_mul_right px a1
/-- of two that gain, unlike segments: one is better -/
theorem better_total {a b : Cn} (ha : gains a = true) (hb : gains b = true) (hs : a.seg ≠ b.seg) : better a b = true ∨ better b a = true := by
  rw [better_both ha hb, better_both hb ha]
  omega
theorem less_live {c : Cn} (hr : right c = true) (live : Int) (h0 : 0 ≤ live) (hl : live < c.live) : better { c with live := live } c = true := by
  have h := right_iff.1 hr
  have hg : gains { c with live := live } = true := gains_iff.2 ⟨h.1, h.2.1, h0, by show live < c.pages; omega⟩
  cases hc : gains c
  · exact better_left hg hc
  · rw [better_both hg hc]
    left
    have hh := gains_iff.1 hc
    unfold score gainN
    simp only
    have a1 : (c.pages - c.live).toNat < (c.pages - live).toNat := by omega
    have a2 : (live + 1).toNat ≤ (c.live + 1).toNat := by omega
    calc (c.pages - c.live).toNat * (min c.age 4294967296 + 1) * (live + 1).toNat
        ≤ (c.pages - c.live).toNat * (min c.age 4294967296 + 1) * (c.live + 1).toNat := Nat.mul_le_mul_left _ a2
      _ < (c.pages - live).toNat * (min c.age 4294967296 + 1) * (c.live + 1).toNat :=
          Nat.mul_lt_mul_of_pos_right (Nat.mul_lt_mul_of_pos_right a1 (Nat.succ_pos _)) (by omega)
theorem more_age {c : Cn} (hg : gains c = true) (age : Nat) (ha : c.age < age) (hc : c.age < 4294967296) : better { c with age := age } c = true := by
  have h := gains_iff.1 hg
  have hg2 : gains { c with age := age } = true := gains_iff.2 h
  rw [better_both hg2 hg]
  left
  unfold score gainN
  simp only
  refine Nat.mul_lt_mul_of_pos_right (Nat.mul_lt_mul_of_pos_left (by omega) (by omega)) (by omega)
/-- the best one's place; how many there are, if there is none -/
def at_ (L : List Cn) (i : Nat) : Cn := L.getD i zeroC
theorem at_get {L : List Cn} {i : Nat} (h : i < L.length) : L[i]? = some (at_ L i) := by
  unfold at_
  rw [List.getD_eq_getElem?_getD, List.getElem?_eq_getElem h]
  rfl
theorem at_mem {L : List Cn} {i : Nat} (h : i < L.length) : at_ L i ∈ L := List.mem_of_getElem? (at_get h)
/-- is it the best one of all? -/
def topF (L : List Cn) (c : Cn) : Nat → Bool
  | 0 => gains c
  | k + 1 => topF L c k && !better (at_ L k) c
def isTop (L : List Cn) (c : Cn) : Bool := topF L c L.length
def bestF (L : List Cn) : Nat → Nat → Nat
  | 0, i => i
  | f + 1, i => if isTop L (at_ L i) then i else bestF L f (i + 1)
/-- its place; L.length: none -/
def bestP (L : List Cn) : Nat := bestF L L.length 0
def bestI (L : List Cn) : Int := if bestP L < L.length then (bestP L : Int) else -1
theorem topF_iff (L : List Cn) (c : Cn) : ∀ k, topF L c k = true ↔ gains c = true ∧ ∀ j, j < k → better (at_ L j) c = false
  | 0 => by simp [topF]
  | k + 1 => by
    simp only [topF, Bool.and_eq_true, topF_iff L c k, Bool.not_eq_true']
    constructor
    · rintro ⟨⟨h1, h2⟩, h3⟩
      refine ⟨h1, fun j hj => ?_⟩
      rcases Nat.lt_or_ge j k with h | h
      · exact h2 j h
      · obtain rfl : j = k := by omega
        exact h3
    · rintro ⟨h1, h2⟩
      exact ⟨⟨h1, fun j hj => h2 j (by omega)⟩, h2 k (by omega)⟩
theorem bestF_spec (L : List Cn) : ∀ f i, i + f = L.length → i ≤ bestF L f i ∧ bestF L f i ≤ L.length ∧ (∀ j, i ≤ j → j < bestF L f i → isTop L (at_ L j) = false) ∧ (bestF L f i < L.length → isTop L (at_ L (bestF L f i)) = true)
  | 0, i, h => ⟨Nat.le_refl _, by show i ≤ _; omega, fun j h1 h2 => absurd h2 (by show ¬ j < i; omega), fun h2 => absurd h2 (by show ¬ i < _; omega)⟩
  | f + 1, i, h => by
    unfold bestF
    by_cases ht : isTop L (at_ L i) = true
    · rw [if_pos ht]
      exact ⟨Nat.le_refl _, by omega, fun j h1 h2 => by omega, fun _ => ht⟩
    · rw [if_neg ht]
      obtain ⟨a, b, c, d⟩ := bestF_spec L f (i + 1) (by omega)
      refine ⟨by omega, b, fun j h1 h2 => ?_, d⟩
      rcases Nat.lt_or_ge i j with h3 | h3
      · exact c j h3 h2
      · obtain rfl : j = i := by omega
        simpa using ht
theorem best_spec (L : List Cn) : bestP L ≤ L.length ∧ (∀ j, j < bestP L → isTop L (at_ L j) = false) ∧ (bestP L < L.length → isTop L (at_ L (bestP L)) = true) := by
  obtain ⟨_, b, c, d⟩ := bestF_spec L L.length 0 (by omega)
  exact ⟨b, fun j hj => c j (Nat.zero_le _) hj, d⟩
theorem best_eq (L : List Cn) (i : Nat) (hi : i ≤ L.length) (h1 : ∀ j, j < i → isTop L (at_ L j) = false) (h2 : i < L.length → isTop L (at_ L i) = true) : bestP L = i := by
  obtain ⟨a, b, c⟩ := best_spec L
  rcases Nat.lt_trichotomy (bestP L) i with h | h | h
  · have := c (by omega)
    rw [h1 _ h] at this
    cases this
  · exact h
  · have := b i h
    rw [h2 (by omega)] at this
    cases this
/-- some one that gains has a best one above it -/
theorem top_above (L : List Cn) : ∀ (n i : Nat), i < L.length → gains (at_ L i) = true → (∀ S : List Nat, S.length ≤ n ∨ True) → ∃ j, j < L.length ∧ gains (at_ L j) = true ∧ ∀ k, k < L.length → better (at_ L k) (at_ L j) = false := by
  intro n i hi hg _
  -- the best among the first m
  have key : ∀ m, m ≤ L.length → (∀ j, j < m → gains (at_ L j) = false) ∨ ∃ j, j < m ∧ gains (at_ L j) = true ∧ ∀ k, k < m → better (at_ L k) (at_ L j) = false := by
    intro m
    induction m with
    | zero => intro _; left; intro j hj; omega
    | succ m ih =>
      intro hm
      rcases ih (by omega) with h | ⟨j, h1, h2, h3⟩
      · cases hgm : gains (at_ L m)
        · left
          intro j hj
          rcases Nat.lt_or_ge j m with h4 | h4
          · exact h j h4
          · obtain rfl : j = m := by omega
            exact hgm
        · right
          refine ⟨m, Nat.lt_succ_self _, hgm, fun k hk => ?_⟩
          rcases Nat.lt_or_ge k m with h4 | h4
          · cases hb : better (at_ L k) (at_ L m)
            · rfl
            · have := better_gains hb
              rw [h k h4] at this
              cases this
          · obtain rfl : k = m := by omega
            exact better_self _
      · right
        cases hb : better (at_ L m) (at_ L j)
        · refine ⟨j, by omega, h2, fun k hk => ?_⟩
          rcases Nat.lt_or_ge k m with h4 | h4
          · exact h3 k h4
          · obtain rfl : k = m := by omega
            exact hb
        · refine ⟨m, Nat.lt_succ_self _, better_gains hb, fun k hk => ?_⟩
          rcases Nat.lt_or_ge k m with h4 | h4
          · cases hk2 : better (at_ L k) (at_ L m)
            · rfl
            · have := better_trans hk2 hb
              rw [h3 k h4] at this
              cases this
          · obtain rfl : k = m := by omega
            exact better_self _
  rcases key L.length (Nat.le_refl _) with h | h
  · rw [h i hi] at hg; cases hg
  · exact h
theorem best_some {L : List Cn} {i : Nat} (hi : i < L.length) (hg : gains (at_ L i) = true) : bestP L < L.length := by
  obtain ⟨j, hj, h1, h2⟩ := top_above L 0 i hi hg (fun _ => .inr trivial)
  obtain ⟨a, b, c⟩ := best_spec L
  rcases Nat.lt_or_ge (bestP L) L.length with h | h
  · exact h
  · have := b j (by omega)
    have ht : isTop L (at_ L j) = true := (topF_iff L _ _).2 ⟨h1, h2⟩
    rw [ht] at this
    cases this
theorem best_top {L : List Cn} (h : bestP L < L.length) : gains (at_ L (bestP L)) = true ∧ ∀ k, k < L.length → better (at_ L k) (at_ L (bestP L)) = false :=
  (topF_iff L _ _).1 ((best_spec L).2.2 h)
theorem at_drop (L : List Cn) (k i : Nat) : at_ (L.drop k) i = at_ L (k + i) := by
  unfold at_
  rw [List.getD_eq_getElem?_getD, List.getD_eq_getElem?_getD, List.getElem?_drop]
theorem at_take {L : List Cn} {k i : Nat} (h : i < k) : at_ (L.take k) i = at_ L i := by
  unfold at_
  rw [List.getD_eq_getElem?_getD, List.getD_eq_getElem?_getD, List.getElem?_take_of_lt h]
/-- the best one is the best one of any part in which it stands, from 'from' on -/
theorem best_drop {L : List Cn} (h : bestP L < L.length) (fr : Nat) (hf : fr ≤ bestP L) : bestP (L.drop fr) = bestP L - fr := by
  obtain ⟨hg, ht⟩ := best_top h
  obtain ⟨_, hno, _⟩ := best_spec L
  refine best_eq _ _ (by rw [List.length_drop]; omega) (fun j hj => ?_) (fun _ => ?_)
  · rw [at_drop]
    have h1 := hno (fr + j) (by omega)
    cases h2 : isTop (L.drop fr) (at_ L (fr + j))
    · rfl
    · rw [isTop, topF_iff] at h2
      obtain ⟨h3, h4⟩ := h2
      -- it is not top in the whole: then some one before 'fr' is better, and the best one is better than that, or like it
      have h5 : ¬ (∀ k, k < L.length → better (at_ L k) (at_ L (fr + j)) = false) := by
        intro hall
        have : isTop L (at_ L (fr + j)) = true := (topF_iff L _ _).2 ⟨h3, hall⟩
        rw [h1] at this
        cases this
      exfalso
      apply h5
      intro k hk
      cases hb : better (at_ L k) (at_ L (fr + j))
      · rfl
      · have h6 := h4 (bestP L - fr) (by rw [List.length_drop]; omega)
        rw [at_drop, show fr + (bestP L - fr) = bestP L by omega] at h6
        have h8 := better_alike h3 hg (ht (fr + j) (by omega)) h6 hb
        rw [ht k hk] at h8
        cases h8
  · rw [at_drop, show fr + (bestP L - fr) = bestP L by omega, isTop, topF_iff]
    refine ⟨hg, fun k hk => ?_⟩
    rw [at_drop]
    rw [List.length_drop] at hk
    exact ht (fr + k) (by omega)
theorem best_take {L : List Cn} (h : bestP L < L.length) : bestP (L.take (bestP L + 1)) = bestP L := by
  obtain ⟨hg, ht⟩ := best_top h
  have hl : (L.take (bestP L + 1)).length = bestP L + 1 := by rw [List.length_take]; omega
  have htop : isTop (L.take (bestP L + 1)) (at_ L (bestP L)) = true := by
    rw [isTop, topF_iff]
    refine ⟨hg, fun k hk => ?_⟩
    rw [hl] at hk
    rw [at_take hk]
    exact ht k (by omega)
  refine best_eq _ _ (by omega) (fun j hj => ?_) (fun _ => by rw [at_take (Nat.lt_succ_self _)]; exact htop)
  rw [at_take (by omega)]
  obtain ⟨_, hno, _⟩ := best_spec L
  have h1 := hno j hj
  cases h2 : isTop (L.take (bestP L + 1)) (at_ L j)
  · rfl
  · rw [isTop, topF_iff] at h2
    obtain ⟨h3, h4⟩ := h2
    have h6 := h4 (bestP L) (by rw [hl]; omega)
    rw [at_take (Nat.lt_succ_self _)] at h6
    have h5 : isTop L (at_ L j) = true := by
      rw [isTop, topF_iff]
      refine ⟨h3, fun k hk => ?_⟩
      cases hb : better (at_ L k) (at_ L j)
      · rfl
      · have h8 := better_alike h3 hg (ht j (by omega)) h6 hb
        rw [ht k hk] at h8
        cases h8
    rw [h1] at h5
    cases h5
theorem best_one (c : Cn) : bestP [c] = if gains c then 0 else 1 := by
  cases hg : gains c
  · refine best_eq _ 1 (Nat.le_refl _) (fun j hj => ?_) (fun h => absurd h (Nat.lt_irrefl _))
    obtain rfl : j = 0 := by omega
    cases h2 : isTop [c] (at_ [c] 0)
    · rfl
    · rw [isTop, topF_iff] at h2
      have : gains c = true := h2.1
      rw [hg] at this
      cases this
  · refine best_eq _ 0 (Nat.zero_le _) (fun j hj => absurd hj (Nat.not_lt_zero _)) (fun _ => ?_)
    rw [isTop, topF_iff]
    refine ⟨hg, fun k hk => ?_⟩
    obtain rfl : k = 0 := by simpa using hk
    exact better_self _
end Go.PicM

end
section
namespace Go.TabM
structure Sg where
  kind : Nat
  seq : Nat
  wear : Nat
def zS : Sg := ⟨0, 0, 0⟩
structure T where
  rows : List Sg
  next : Nat
def at_ (l : List Sg) (i : Nat) : Sg := l.getD i zS
/-- the first open segment, from i on -/
def curF : Nat → List Sg → Option Nat
  | _, [] => none
  | i, s :: l => if s.kind = 1 then some i else curF (i + 1) l
def cur (t : T) : Option Nat := curF 0 t.rows
/-- is a segment taken in the place of the best one so far -/
def takes (b : Option (Nat × Nat)) (s : Sg) : Bool := decide (s.kind = 0) && (match b with | none => true | some p => decide (s.wear < p.2))
def bestF : Option (Nat × Nat) → Nat → List Sg → Option (Nat × Nat)
  | b, _, [] => b
  | b, i, s :: l => bestF (if takes b s then some (i, s.wear) else b) (i + 1) l
def best (t : T) : Option (Nat × Nat) := bestF none 0 t.rows
theorem at_eq {l : List Sg} {i : Nat} {s : Sg} (h : l[i]? = some s) : at_ l i = s := by unfold at_; rw [List.getD_eq_getElem?_getD, h]; rfl
theorem at_get {l : List Sg} {i : Nat} (h : i < l.length) : l[i]? = some (at_ l i) := by
  unfold at_; rw [List.getD_eq_getElem?_getD, List.getElem?_eq_getElem h]; rfl
theorem at_mem {l : List Sg} {i : Nat} (h : i < l.length) : at_ l i ∈ l := List.mem_of_getElem? (at_get h)

/-! ### what a table is -/
theorem bestF_some : ∀ (l : List Sg) (b : Option (Nat × Nat)) (j : Nat) (p : Nat × Nat), bestF b j l = some p → b = some p ∨ ∃ k s, p.1 = j + k ∧ l[k]? = some s ∧ s.kind = 0 ∧ s.wear = p.2
  | [], b, j, p, h => .inl h
  | x :: l, b, j, p, h => by
    unfold bestF at h
    rcases bestF_some l _ _ _ h with h1 | ⟨k, s, e, h1, h2, h3⟩
    · by_cases ht : takes b x = true
      · rw [if_pos ht] at h1
        cases h1
        refine .inr ⟨0, x, rfl, rfl, ?_, rfl⟩
        unfold takes at ht
        simp only [Bool.and_eq_true, decide_eq_true_eq] at ht
        exact ht.1
      · rw [if_neg ht] at h1
        exact .inl h1
    · exact .inr ⟨k + 1, s, by omega, h1, h2, h3⟩
theorem best_some {t : T} {i w : Nat} (h : best t = some (i, w)) : i < t.rows.length ∧ (at_ t.rows i).kind = 0 ∧ (at_ t.rows i).wear = w := by
  rcases bestF_some _ _ _ _ h with h1 | ⟨k, s, e, h1, h2, h3⟩
  · cases h1
  · simp only [Nat.zero_add] at e h3
    subst e
    exact ⟨(List.getElem?_eq_some_iff.1 h1).1, by rw [at_eq h1]; exact h2, by rw [at_eq h1]; exact h3⟩
/-! ### which rows are loaded -/
/-! ### sums -/
theorem count_none {l : List Sg} (h : ∀ s ∈ l, s.kind ≠ 1) : l.countP (fun s => decide (s.kind = 1)) = 0 := by
  rw [List.countP_eq_zero]; intro s hs; simpa using h s hs
/-! ### numbers rise -/
end Go.TabM

end
section
namespace Go.Own
open Go.RowKit

/-- From w to w' only blocks of S have turned among those that were there; T (what the object holds now) is S and new blocks. -/
structure Step (S T : Nat → Prop) (w w' : World) : Prop where
  os : w'.os = w.os
  tape : w'.tape = w.tape
  output : w'.output = w.output
  size : w.heap.size ≤ w'.heap.size
  block : ∀ k, k < w.heap.size → ¬ S k → w'.heap[k]? = w.heap[k]?
  new : ∀ k, T k → S k ∨ w.heap.size ≤ k

theorem Step.refl (S : Nat → Prop) (w : World) : Step S S w w := ⟨rfl, rfl, rfl, Nat.le_refl _, fun _ _ _ => rfl, fun _ h => Or.inl h⟩

theorem Step.trans {S T U : Nat → Prop} {w w1 w2 : World} (h : Step S T w w1) (g : Step T U w1 w2) : Step S U w w2 :=
  ⟨g.os.trans h.os, g.tape.trans h.tape, g.output.trans h.output, Nat.le_trans h.size g.size,
   fun k hk hs => (g.block k (Nat.lt_of_lt_of_le hk h.size) (fun ht => (h.new k ht).elim hs (fun h1 => absurd h1 (by omega)))).trans (h.block k hk hs),
   fun k hu => (g.new k hu).elim (fun h1 => h.new k h1) (fun h1 => Or.inr (Nat.le_trans h.size h1))⟩

theorem Step.drewN {S T : Nat → Prop} {w w' : World} (h : Step S T w w') (n : Nat) : Step S T w (w'.drewN n) := ⟨h.os, h.tape, h.output, h.size, h.block, h.new⟩
theorem Step.drew {S T : Nat → Prop} {w w' : World} (h : Step S T w w') : Step S T w w'.drew := ⟨h.os, h.tape, h.output, h.size, h.block, h.new⟩

/-- A store into one of the object's own blocks. -/
theorem Step.setCell {S T : Nat → Prop} {w w' : World} (h : Step S T w w') {a : Addr} (ha : S a.block ∨ w.heap.size ≤ a.block) (u : Value) : Step S T w (w'.setCell a u) :=
  ⟨h.os, h.tape, h.output, by simpa using h.size, fun k hk hs => by
    have hne : k ≠ a.block := by
      intro e; subst e
      exact ha.elim hs (fun h1 => absurd h1 (by omega))
    rw [Below.heap_setCell _ _ _ _ hne]; exact h.block k hk hs, h.new⟩

/-- A new block, the object's or nobody's. -/
theorem Step.alloc {S T : Nat → Prop} {w w' : World} (h : Step S T w w') (o : Obj) : Step S T w (w'.alloc o) :=
  ⟨h.os, h.tape, h.output, by have := h.size; simp; omega, fun k hk hs => by
    rw [Below.heap_alloc _ _ _ (by have := h.size; omega)]; exact h.block k hk hs, h.new⟩

/-- What the object holds may be said otherwise. -/
theorem Step.to {S T U : Nat → Prop} {w w' : World} (h : Step S T w w') (hu : ∀ k, U k → S k ∨ w.heap.size ≤ k) : Step S U w w' := ⟨h.os, h.tape, h.output, h.size, h.block, hu⟩

theorem Step.below {S T : Nat → Prop} {w w' : World} (h : Step S T w w') {B : Nat} (hB : B ≤ w.heap.size) (hS : ∀ k, S k → B ≤ k) : Below B w w' :=
  ⟨h.os, h.tape, h.output, h.size, fun k hk => h.block k (by omega) (fun hs => by have := hS k hs; omega)⟩

def Dis (S T : Nat → Prop) : Prop := ∀ k, S k → ¬ T k

theorem cell_of_block {w : World} {b i : Nat} {c : Array Value} {t : TypeId} {fz : Nat × Nat} {v : Value} (h : w.heap[b]? = some (.cells c t fz)) (hv : c[i]? = some v) : w.cell? ⟨b, i, none⟩ = some v := by
  simp [World.cell?, h, hv]

theorem frozen_of_block {w : World} {b i : Nat} {c : Array Value} {t : TypeId} (h : w.heap[b]? = some (.cells c t (0, 0))) : w.frozen? ⟨b, i, none⟩ = false := by
  simp [World.frozen?, h]

theorem lt_of_block {w : World} {b : Nat} {o : Obj} (h : w.heap[b]? = some o) : b < w.heap.size := (Array.getElem?_eq_some_iff.1 h).1

theorem block_setCell {w : World} {b i : Nat} {c : Array Value} {t : TypeId} {fz : Nat × Nat} (h : w.heap[b]? = some (.cells c t fz)) (u : Value) :
    (w.setCell ⟨b, i, none⟩ u).heap[b]? = some (.cells (c.setIfInBounds i u) t fz) := by
  simp [World.setCell, Array.getElem?_modify, h]

def byteV (c : UInt8) : Value := .int .u8 (c.toNat : Int)
/-- A row of an object's own: n elements (size cells each) in the cells xs; T: the block that holds them, if there is one. -/
structure Row (w : World) (e : TypeId) (size : Nat) (T : Nat → Prop) (v : Value) (n : Nat) (xs : List Value) : Prop where
  own : w.ownsRow 0 e size v n xs
  set : ∀ k, T k ↔ v.ownBlock = some k

section
variable {w w' : World} {e : TypeId} {size : Nat} {S T U : Nat → Prop} {v : Value} {n : Nat} {xs : List Value}

theorem Row.nil (w : World) (e : TypeId) (size : Nat) : Row w e size (fun _ => False) (.slice none 0 0) 0 [] := ⟨World.ownsRow_nil w 0 e size, fun k => by simp [Value.ownBlock]⟩

theorem Row.form (h : Row w e size T v n xs) : ∃ ao cap, v = .slice ao n cap ∧ n ≤ cap ∧ cap ≤ maxLen ∧ (ao = none → n = 0 ∧ cap = 0 ∧ xs = []) ∧ ∀ a, ao = some a → ∃ g, a = ⟨g, 0, none⟩ ∧ T g := by
  have hs := h.set
  have hx := h.own.1
  rcases h.own.2 with ⟨rfl, rfl⟩ | ⟨g, cap, cur, rfl, _, _, h1, h2, _⟩
  · exact ⟨none, 0, rfl, Nat.le_refl _, by unfold maxLen; omega, fun _ => ⟨rfl, rfl, List.eq_nil_of_length_eq_zero (by simpa using hx)⟩, fun a h => by cases h⟩
  · exact ⟨_, cap, rfl, h1, h2, fun h => by (cases h), fun a ha => ⟨g, by cases ha; rfl, (hs g).2 rfl⟩⟩

theorem Row.lt (h : Row w e size T v n xs) : ∀ k, T k → k < w.heap.size := fun k hk => (h.own.lt k ((h.set k).1 hk)).2

/-- What others turn turns no row of mine. -/
theorem Row.step (h : Row w e size T v n xs) (g : Step S U w w') (hd : Dis T S) : Row w' e size T v n xs := by
  refine ⟨⟨h.own.1, ?_⟩, h.set⟩
  rcases h.own.2 with h1 | ⟨b, cap, cur, rfl, h0, hb, r⟩
  · exact .inl h1
  · exact .inr ⟨b, cap, cur, rfl, h0, (g.block b (lt_of_block hb) (hd b ((h.set b).2 rfl))).trans hb, r⟩

theorem Row.alloc (h : Row w e size T v n xs) (o : Obj) : Row (w.alloc o) e size T v n xs := ⟨h.own.alloc o, h.set⟩
theorem Row.drew (h : Row w e size T v n xs) : Row w.drew e size T v n xs := ⟨h.own.drew, h.set⟩

theorem Row.cells {b cap : Nat} (h : Row w e size T (.slice (some ⟨b, 0, none⟩) n cap) n xs) (j : Nat) (hj : j < n * size) : w.cell? ⟨b, j, none⟩ = xs[j]? := h.own.cellAt j hj
end

/-- A slice value in the region S of memory reads as these bytes. -/
def View (w : World) (S : Nat → Prop) (ao : Option Addr) (l : List UInt8) : Prop :=
  l = [] ∨ ∃ b o, ao = some ⟨b, o, none⟩ ∧ S b ∧ b < w.heap.size ∧ ∀ j, j < l.length → w.cell? ⟨b, o + j, none⟩ = some (.int .u8 ((l.getD j 0).toNat : Int))

theorem View.step {w w' : World} {S T U : Nat → Prop} {ao : Option Addr} {l : List UInt8} (h : View w S ao l) (g : Step T U w w') (hd : Dis S T) : View w' S ao l := by
  rcases h with h | ⟨b, o, e, hS, hb, hc⟩
  · exact .inl h
  · exact .inr ⟨b, o, e, hS, Nat.lt_of_lt_of_le hb g.size, fun j hj => (World.cell?_of_block (w := w) (g.block b hb (hd b hS))).trans (hc j hj)⟩

theorem View.live {w : World} {D : Nat → Prop} {ao : Option Addr} {l : List UInt8} (h : View w D ao l) : View w (fun k => D k ∧ k < w.heap.size) ao l := by
  rcases h with h | ⟨b, o, e, hS, hb, hc⟩
  · exact .inl h
  · exact .inr ⟨b, o, e, ⟨hS, hb⟩, hb, hc⟩

theorem Dis.step {D S T : Nat → Prop} {w w' : World} (hd : Dis D S) (hs : Step S T w w') : Dis (fun k => D k ∧ k < w.heap.size) T :=
  fun k hk ht => (hs.new k ht).elim (hd k hk.1) (fun h => absurd hk.2 (by omega))

theorem Dis.symm {S T : Nat → Prop} (h : Dis S T) : Dis T S := fun k ht hs => h k hs ht

/-- two objects stay apart when one of them grows -/
theorem Dis.grow {S T U : Nat → Prop} {w w' : World} (hd : Dis S U) (hu : ∀ k, U k → k < w.heap.size) (hs : Step S T w w') : Dis T U :=
  fun k ht hk => (hs.new k ht).elim (fun h => hd k h hk) (fun h => absurd (hu k hk) (by omega))

/-- all that an object holds lies from B on -/
theorem Step.from {S T : Nat → Prop} {w w' : World} {B : Nat} (hs : Step S T w w') (h : ∀ k, S k → B ≤ k) (hB : B ≤ w.heap.size) : ∀ k, T k → B ≤ k :=
  fun k ht => (hs.new k ht).elim (h k) (fun g => Nat.le_trans hB g)

theorem Row.view {w : World} {e : TypeId} {T : Nat → Prop} {ao : Option Addr} {n cap : Nat} {l : List UInt8} (h : Row w e 1 T (.slice ao n cap) n (l.map byteV)) : View w T ao l := by
  have hl : l.length = n := by simpa using h.own.1
  obtain ⟨ao', cap', hv, _, _, h0, h1⟩ := h.form
  simp only [Value.slice.injEq, true_and] at hv
  obtain ⟨rfl, rfl⟩ := hv
  cases ao with
  | none => have := (h0 rfl).1; exact .inl (List.eq_nil_of_length_eq_zero (by omega))
  | some a =>
    obtain ⟨g, rfl, hT⟩ := h1 a rfl
    refine .inr ⟨g, 0, rfl, hT, h.lt g hT, fun j hj => ?_⟩
    rw [Nat.zero_add, h.cells j (by rw [Nat.mul_one]; omega)]
    simp [byteV, hj]

end Go.Own

end
section
namespace Go.Own
open Go.RowKit

/-- an object: what is so of it, given the blocks that it holds; what others turn does not touch it -/
structure Asn where
  holds : (Nat → Prop) → World → Prop
  keep : ∀ {S T U : Nat → Prop} {w w' : World}, holds S w → Step T U w w' → Dis S T → holds S w'
  lt : ∀ {S : Nat → Prop} {w : World}, holds S w → ∀ k, S k → k < w.heap.size

/-- the objects lie apart, and hold the blocks S together -/
def Apart (w : World) : List Asn → (Nat → Prop) → Prop
  | [], S => ∀ k, ¬ S k
  | P :: Ps, S => ∃ S1 S2, P.holds S1 w ∧ Apart w Ps S2 ∧ Dis S1 S2 ∧ ∀ k, S k ↔ (S1 k ∨ S2 k)

theorem Apart.lt {w : World} : ∀ {Ps : List Asn} {S : Nat → Prop}, Apart w Ps S → ∀ k, S k → k < w.heap.size
  | [], _, h, k, hk => absurd hk (h k)
  | P :: _, _, ⟨_, _, h1, h2, _, h4⟩, k, hk => ((h4 k).1 hk).elim (P.lt h1 k) (fun h => h2.lt k h)

theorem Apart.keep {w w' : World} {T U : Nat → Prop} (g : Step T U w w') : ∀ {Ps : List Asn} {S : Nat → Prop}, Apart w Ps S → Dis S T → Apart w' Ps S
  | [], _, h, _ => h
  | P :: _, _, ⟨S1, S2, h1, h2, h3, h4⟩, hd => ⟨S1, S2, P.keep h1 g (fun k hk => hd k ((h4 k).2 (.inl hk))), h2.keep g (fun k hk => hd k ((h4 k).2 (.inr hk))), h3, h4⟩

/-- one of them is looked at, turned into something else, and put back -/
theorem Apart.at {w : World} : ∀ {Ps : List Asn} {S : Nat → Prop} (i : Nat) {P : Asn}, Apart w Ps S → Ps[i]? = some P →
    ∃ Si, P.holds Si w ∧ (∀ k, Si k → S k) ∧ (∀ (j : Nat) (R : Asn), j ≠ i → Ps[j]? = some R → ∃ Sj, R.holds Sj w ∧ Dis Sj Si) ∧
      ∀ (S' : Nat → Prop) (w' : World) (Q : Asn), Q.holds S' w' → Step Si S' w w' → ∃ S'', Apart w' (Ps.set i Q) S'' ∧ (∀ k, S'' k → S k ∨ S' k)
  | [], _, i, _, _, hi => by simp at hi
  | P :: Ps, S, 0, P', ⟨S1, S2, h1, h2, h3, h4⟩, hi => by
    obtain rfl : P = P' := by simpa using hi
    refine ⟨S1, h1, fun k hk => (h4 k).2 (.inl hk), fun j R hj hR => ?_, fun S' w' Q hQ hs => ⟨fun k => S' k ∨ S2 k, ⟨S', S2, hQ, h2.keep hs h3.symm, h3.grow h2.lt hs, fun k => Iff.rfl⟩, fun k hk => hk.elim .inr (fun h => .inl ((h4 k).2 (.inr h)))⟩⟩
    match j, hj with
    | j + 1, _ =>
      obtain ⟨Sj, g1, g2, _⟩ := h2.at j (by simpa using hR)
      exact ⟨Sj, g1, fun k hk hk' => h3 k hk' (g2 k hk)⟩
  | P :: Ps, S, i + 1, P', ⟨S1, S2, h1, h2, h3, h4⟩, hi => by
    obtain ⟨Si, g1, g2, g4, g3⟩ := h2.at i (by simpa using hi)
    refine ⟨Si, g1, fun k hk => (h4 k).2 (.inr (g2 k hk)), fun j R hj hR => ?_, fun S' w' Q hQ hs => ?_⟩
    · match j, hj with
      | 0, _ =>
        obtain rfl : P = R := by simpa using hR
        exact ⟨S1, h1, fun k hk hk' => h3 k hk (g2 k hk')⟩
      | j + 1, hj => exact g4 j R (by omega) (by simpa using hR)
    obtain ⟨S'', k1, k2⟩ := g3 S' w' Q hQ hs
    have hd : Dis S1 Si := fun k hk hk' => h3 k hk (g2 k hk')
    have hd' : Dis S1 S' := (hd.symm.grow (P.lt h1) hs).symm
    exact ⟨fun k => S1 k ∨ S'' k, ⟨S1, S'', P.keep h1 hs hd, k1, fun k hk hk' => (k2 k hk').elim (h3 k hk) (hd' k hk), fun k => Iff.rfl⟩, fun k hk => hk.elim (fun h => .inl ((h4 k).2 (.inl h))) (fun h => (k2 k h).imp (fun g => (h4 k).2 (.inr g)) id)⟩

/-- THE STATE OF A CALL: since w0 nothing below B has turned; these objects lie apart, from B on. -/
structure St (B : Nat) (w0 w : World) (Ps : List Asn) : Prop where
  below : Below B w0 w
  size : B ≤ w.heap.size
  own : ∃ S, Apart w Ps S ∧ ∀ k, S k → B ≤ k

theorem St.start (w : World) : St w.heap.size w w [] := ⟨Below.refl _ _, Nat.le_refl _, fun _ => False, fun _ h => h, fun _ h => h.elim⟩

section
variable {B : Nat} {w0 w w' : World} {Ps : List Asn}

theorem St.at (h : St B w0 w Ps) (i : Nat) {P : Asn} (hi : Ps[i]? = some P) :
    ∃ Si, P.holds Si w ∧ (∀ k, Si k → B ≤ k) ∧ ∀ (S' : Nat → Prop) (w' : World) (Q : Asn), Q.holds S' w' → Step Si S' w w' → St B w0 w' (Ps.set i Q) := by
  obtain ⟨hb, hs, S, ha, hB⟩ := h
  obtain ⟨Si, g1, g2, _, g3⟩ := ha.at i hi
  refine ⟨Si, g1, fun k hk => hB k (g2 k hk), fun S' w' Q hQ hst => ?_⟩
  obtain ⟨S'', k1, k2⟩ := g3 S' w' Q hQ hst
  exact ⟨hb.trans (hst.below hs (fun k hk => hB k (g2 k hk))), Nat.le_trans hs hst.size, S'', k1, fun k hk => (k2 k hk).elim (hB k) (fun g => (hst.new k g).elim (fun g => hB k (g2 k g)) (Nat.le_trans hs))⟩

/-- something new -/
theorem St.new (h : St B w0 w Ps) {S' : Nat → Prop} (Q : Asn) (hQ : Q.holds S' w') (hst : Step (fun _ => False) S' w w') : St B w0 w' (Q :: Ps) := by
  obtain ⟨hb, hs, S, ha, hB⟩ := h
  refine ⟨hb.trans (hst.below hs (fun _ h => h.elim)), Nat.le_trans hs hst.size, fun k => S' k ∨ S k, ⟨S', S, hQ, ha.keep hst (fun _ _ h => h), fun k h1 h2 => (hst.new k h1).elim (fun h => h) (fun h => by have := ha.lt k h2; omega), fun k => Iff.rfl⟩, fun k hk => hk.elim (fun h => (hst.new k h).elim (fun h => h.elim) (Nat.le_trans hs)) (hB k)⟩

/-- nothing that is held has turned -/
theorem St.quiet (h : St B w0 w Ps) {T : Nat → Prop} (hst : Step (fun _ => False) T w w') : St B w0 w' Ps := by
  obtain ⟨hb, hs, S, ha, hB⟩ := h
  exact ⟨hb.trans (hst.below hs (fun _ h => h.elim)), Nat.le_trans hs hst.size, S, ha.keep hst (fun _ _ h => h), hB⟩

theorem St.alloc (h : St B w0 w Ps) (o : Obj) : St B w0 (w.alloc o) Ps := h.quiet ((Step.refl (fun _ => False) w).alloc o)
theorem St.drew (h : St B w0 w Ps) : St B w0 w.drew Ps := h.quiet ((Step.refl (fun _ => False) w).drew)
theorem St.drewN (h : St B w0 w Ps) (n : Nat) : St B w0 (w.drewN n) Ps := h.quiet ((Step.refl (fun _ => False) w).drewN n)

/-- something is let go -/
theorem Apart.drop {w : World} : ∀ {Ps : List Asn} {S : Nat → Prop} (n : Nat), Apart w Ps S → ∃ S', Apart w (Ps.drop n) S' ∧ ∀ k, S' k → S k
  | Ps, S, 0, h => ⟨S, by simpa using h, fun _ h => h⟩
  | [], S, n + 1, h => ⟨S, by simpa using h, fun _ h => h⟩
  | _ :: _, _, n + 1, ⟨_, _, _, h2, _, h4⟩ => by
    obtain ⟨S', g1, g2⟩ := h2.drop n
    exact ⟨S', by simpa using g1, fun k hk => (h4 k).2 (.inr (g2 k hk))⟩
theorem St.drop (h : St B w0 w Ps) (n : Nat) : St B w0 w (Ps.drop n) := by
  obtain ⟨hb, hs, S, ha, hB⟩ := h
  obtain ⟨S', g1, g2⟩ := ha.drop n
  exact ⟨hb, hs, S', g1, fun k hk => hB k (g2 k hk)⟩

end

/-- old memory reads as it did -/
theorem View.below {w w' : World} {B : Nat} {ao : Option Addr} {l : List UInt8} (h : View w (fun k => k < B) ao l) (g : Below B w w') : View w' (fun k => k < B) ao l := by
  rcases h with h | ⟨b, o, e, hS, hb, hc⟩
  · exact .inl h
  · exact .inr ⟨b, o, e, hS, Nat.lt_of_lt_of_le hb g.size, fun j hj => (World.cell?_of_block (w := w) (g.block b hS)).trans (hc j hj)⟩

theorem View.mono {w : World} {D D' : Nat → Prop} {ao : Option Addr} {l : List UInt8} (h : View w D ao l) (hd : ∀ k, D k → D' k) : View w D' ao l := by
  rcases h with h | ⟨b, o, e, hS, hb, hc⟩
  · exact .inl h
  · exact .inr ⟨b, o, e, hd b hS, hb, hc⟩

/-- a row as an object -/
def ARow (e : TypeId) (size : Nat) (v : Value) (n : Nat) (xs : List Value) : Asn where
  holds S w := Row w e size S v n xs
  keep h g hd := h.step g hd
  lt h := h.lt

/-- a block of one's own, known whole -/
def ABlk (b : Nat) (o : Obj) : Asn where
  holds S w := w.heap[b]? = some o ∧ ∀ k, S k ↔ k = b
  keep h g hd := ⟨(g.block _ (lt_of_block h.1) (hd _ ((h.2 _).2 rfl))).trans h.1, h.2⟩
  lt h k hk := by rw [(h.2 k).1 hk]; exact lt_of_block h.1

theorem St.block {B : Nat} {w0 w : World} {Ps : List Asn} (h : St B w0 w Ps) (i : Nat) {b : Nat} {o : Obj} (hi : Ps[i]? = some (ABlk b o)) : w.heap[b]? = some o := by
  obtain ⟨S, hS, _⟩ := h.at i hi
  exact hS.1

theorem St.box {B : Nat} {w0 w : World} {Ps : List Asn} (h : St B w0 w Ps) (o : Obj) : St B w0 (w.alloc o) (ABlk w.heap.size o :: Ps) :=
  h.new (S' := fun k => k = w.heap.size) (ABlk w.heap.size o) ⟨heap_alloc_new w o, fun _ => Iff.rfl⟩ (((Step.refl (fun _ => False) w).alloc o).to (fun k hk => Or.inr (Nat.le_of_eq hk.symm)))

end Go.Own

end
section
namespace Go.Own
open Go.RowKit

theorem Apart.split {w : World} : ∀ {Ps Qs : List Asn} {S : Nat → Prop}, Apart w (Ps ++ Qs) S → ∃ S1 S2, Apart w Ps S1 ∧ Apart w Qs S2 ∧ Dis S1 S2 ∧ ∀ k, S k ↔ (S1 k ∨ S2 k)
  | [], Qs, S, h => ⟨fun _ => False, S, fun _ h => h, h, fun _ h => h.elim, fun k => ⟨.inr, fun x => x.elim (fun y => y.elim) id⟩⟩
  | P :: Ps, Qs, S, ⟨S1, S2, h1, h2, h3, h4⟩ => by
    obtain ⟨T1, T2, g1, g2, g3, g4⟩ := Apart.split h2
    exact ⟨fun k => S1 k ∨ T1 k, T2, ⟨S1, T1, h1, g1, fun k hk hk' => h3 k hk ((g4 k).2 (.inl hk')), fun k => Iff.rfl⟩, g2, fun k hk hk' => hk.elim (fun x => h3 k x ((g4 k).2 (.inr hk'))) (fun x => g3 k x hk'), fun k => by rw [h4 k, g4 k, or_assoc]⟩

theorem Apart.perm {w : World} {Ps Qs : List Asn} (h : Ps.Perm Qs) : ∀ {S : Nat → Prop}, Apart w Ps S → Apart w Qs S := by
  induction h with
  | nil => exact fun h => h
  | cons x _ ih => rintro S ⟨S1, S2, h1, h2, h3, h4⟩; exact ⟨S1, S2, h1, ih h2, h3, h4⟩
  | swap x y l =>
    rintro S ⟨S1, S2, h1, ⟨T1, T2, g1, g2, g3, g4⟩, h3, h4⟩
    refine ⟨T1, fun k => S1 k ∨ T2 k, g1, ⟨S1, T2, h1, g2, fun k a b => h3 k a ((g4 k).2 (.inr b)), fun k => Iff.rfl⟩, fun k a b => b.elim (fun c => h3 k c ((g4 k).2 (.inl a))) (g3 k a), fun k => ?_⟩
    rw [h4 k, g4 k]
    constructor
    · rintro (a | a | a)
      · exact .inr (.inl a)
      · exact .inl a
      · exact .inr (.inr a)
    · rintro (a | a | a)
      · exact .inr (.inl a)
      · exact .inl a
      · exact .inr (.inr a)
  | trans _ _ ih1 ih2 => exact fun h => ih2 (ih1 h)

section
variable {B : Nat} {w0 w w' : World} {Ps Qs : List Asn}
theorem St.perm (h : St B w0 w Ps) (e : Ps.Perm Qs) : St B w0 w Qs := by
  obtain ⟨hb, hs, S, ha, hB⟩ := h
  exact ⟨hb, hs, S, ha.perm e, hB⟩
end
end Go.Own

end
section
namespace Go.Own
open Go.RowKit

/-- a block of one's own with these cells -/
def AVals (b : Nat) (t : TypeId) (vs : List Value) : Asn := ABlk b (.cells vs.toArray t (0, 0))

section
variable {B : Nat} {w0 w : World} {Ps : List Asn} {b : Nat} {t : TypeId} {vs : List Value}

theorem St.cellV (h : St B w0 w Ps) (i : Nat) (hi : Ps[i]? = some (AVals b t vs)) (j : Nat) {v : Value} (hj : vs[j]? = some v) : w.cell? ⟨b, j, none⟩ = some v ∧ w.frozen? ⟨b, j, none⟩ = false := by
  have hb := h.block i hi
  exact ⟨cell_of_block hb (by simpa using hj), frozen_of_block hb⟩

theorem St.storeV (h : St B w0 w Ps) (i : Nat) (hi : Ps[i]? = some (AVals b t vs)) (j : Nat) (v : Value) : St B w0 (w.setCell ⟨b, j, none⟩ v) (Ps.set i (AVals b t (vs.set j v))) := by
  obtain ⟨S, hS, _, put⟩ := h.at i hi
  refine put S _ (AVals b t (vs.set j v)) ⟨?_, hS.2⟩ ((Step.refl S w).setCell (a := ⟨b, j, none⟩) (Or.inl ((hS.2 b).2 rfl)) _)
  rw [block_setCell hS.1]
  simp

theorem St.boxV (h : St B w0 w Ps) (t : TypeId) (vs : List Value) : St B w0 (w.alloc (.cells vs.toArray t)) (AVals w.heap.size t vs :: Ps) := h.box _

/-- all its cells are written -/
theorem St.setAll (i : Nat) : ∀ (r : List Value) (o : Nat) (w : World) (Ps : List Asn) (vs : List Value), St B w0 w Ps → Ps[i]? = some (AVals b t vs) → o + r.length = vs.length → St B w0 (w.setCells b o r) (Ps.set i (AVals b t (vs.take o ++ r)))
  | [], o, w, Ps, vs, h, hi, hl => by
    have e : vs.take o ++ [] = vs := by rw [List.append_nil, List.take_of_length_le (by simp at hl; omega)]
    rw [e]
    have : Ps.set i (AVals b t vs) = Ps := by
      apply List.ext_getElem?
      intro j
      by_cases hj : j = i
      · subst hj
        have hlt : j < Ps.length := (List.getElem?_eq_some_iff.1 hi).1
        rw [List.getElem?_set_self hlt, hi]
      · rw [List.getElem?_set_ne (Ne.symm hj)]
    rw [this]
    exact h
  | v :: r, o, w, Ps, vs, h, hi, hl => by
    have hlt : i < Ps.length := (List.getElem?_eq_some_iff.1 hi).1
    have h1 := h.storeV i hi o v
    have h2 := St.setAll i r (o + 1) _ _ (vs.set o v) h1 (by rw [List.getElem?_set_self hlt]) (by simp at hl ⊢; omega)
    rw [List.set_set] at h2
    have e : (vs.set o v).take (o + 1) ++ r = vs.take o ++ v :: r := by
      have ho : o < vs.length := by simp at hl; omega
      have e0 : (vs.set o v).take o = vs.take o := by
        apply List.ext_getElem?
        intro j
        by_cases hj : j < o
        · rw [List.getElem?_take_of_lt hj, List.getElem?_take_of_lt hj, List.getElem?_set_ne (by omega)]
        · rw [List.getElem?_eq_none (by simp; omega), List.getElem?_eq_none (by simp; omega)]
      rw [List.take_succ_eq_append_getElem (by simpa using ho), e0]
      simp
    rw [e] at h2
    exact h2

theorem St.thereV (h : St B w0 w Ps) (i : Nat) (hi : Ps[i]? = some (AVals b t vs)) {n : Nat} (hn : n ≤ vs.length) : w.there b 0 n := by
  intro j hj
  obtain ⟨h1, h2⟩ := h.cellV i hi j (v := vs[j]) (by simp [show j < vs.length by omega])
  rw [Nat.zero_add]
  exact ⟨by rw [h1]; rfl, h2⟩

/-- nothing that is there has turned -/
theorem St.later {w' : World} (h : St B w0 w Ps) (hb : Below w.heap.size w w') : St B w0 w' Ps :=
  h.quiet (T := fun _ => False) ⟨hb.os, hb.tape, hb.output, hb.size, fun k hk _ => hb.block k hk, fun _ h => h.elim⟩

/-- which block it is: apart from every older one -/
theorem St.ltV (h : St B w0 w Ps) (i : Nat) (hi : Ps[i]? = some (AVals b t vs)) : B ≤ b ∧ b < w.heap.size := by
  obtain ⟨S, hS, hB, _⟩ := h.at i hi
  exact ⟨hB b ((hS.2 b).2 rfl), lt_of_block hS.1⟩
end
end Go.Own

end
section
namespace Go.Own
open Go.RowKit Go.ChangeShapes Go.WideShapes Go.Deep

/-- what is so of the cells of a value of one type, in a world, for plain data -/
abbrev InT (α : Type) := α → Nat → World → List Value → Prop

def inInt (k : IntKind) : InT Int := fun n _ _ cs => cs = [.int k n] ∧ (Lit.int k n).wf = true
/-- a slice: nil, or empty, or leading to its elements -/
def inSlice {α : Type} (size : Nat) (R : InT α) : InT (List α) := fun xs B w cs =>
  ∃ ao cap, cs = [.slice ao xs.length cap] ∧ xs.length ≤ cap ∧ cap ≤ maxLen ∧ (ao = none → cap = 0) ∧
    (xs = [] ∨ ∃ b o, ao = some ⟨b, o, none⟩ ∧ b < B ∧ b < w.heap.size ∧ ∀ i (hi : i < xs.length), ∃ cs', cs'.length = size ∧ (∀ j, j < size → w.cell? ⟨b, o + (i * size + j), none⟩ = cs'[j]?) ∧ R xs[i] B w cs')
/-- the form's own reading of a value of type t gives it -/
def Opens {α : Type} (P : Program) (t : TypeId) (R : InT α) : Prop :=
  ∀ (H : Type) (enc : TypeId × Value → H) (w : World) (fuel : Nat) (cs : List Value) (x : DataW H × List MemPlace),
    DataW.trod enc P w 0 (fun _ => true) true fuel t cs = some x → ∃ a, R a w.heap.size w cs

theorem opens_int {P : Program} {t : TypeId} {k : IntKind} (ht : P.underlying t = some (.int k)) : Opens P t (inInt k) := by
  intro H enc w fuel cs x h
  obtain ⟨n, rfl, _, hw⟩ := DataW.trod_int ht h
  exact ⟨n, rfl, hw⟩
theorem add_of (b o j : Nat) : (⟨b, o, none⟩ : Addr).add j = ⟨b, o + j, none⟩ := by unfold Addr.add; split <;> simp_all

/-- elements, one by one, as one list -/
theorem list_of {α : Type} {n : Nat} {p : Nat → α → Prop} (h : ∀ i, i < n → ∃ x, p i x) : ∃ xs : List α, xs.length = n ∧ ∀ i (hi : i < xs.length), p i xs[i] := by
  induction n with
  | zero => exact ⟨[], rfl, fun i hi => absurd hi (Nat.not_lt_zero _)⟩
  | succ n ih =>
    obtain ⟨xs, h1, h2⟩ := ih (fun i hi => h i (by omega))
    obtain ⟨x, hx⟩ := h n (by omega)
    refine ⟨xs ++ [x], by simp [h1], fun i hi => ?_⟩
    by_cases hin : i < xs.length
    · rw [List.getElem_append_left hin]; exact h2 i hin
    · have : i = n := by simp at hi; omega
      subst this
      rw [List.getElem_append_right (by omega)]
      simpa [h1] using hx

theorem opens_slice {α : Type} {P : Program} {t e : TypeId} {R : InT α} (size : Nat) (ht : P.underlying t = some (.slice e)) (hc : P.cellsOf e = size) (hpos : 0 < size) (hR : Opens P e R) : Opens P t (inSlice size R) := by
  intro H enc w fuel cs x h
  rcases open_slice ht h with ⟨rfl, _⟩ | ⟨a, len, cap, m, n, D, Pl, rfl, _, h1, h2, hm, _, hel⟩
  · exact ⟨[], none, 0, rfl, Nat.le_refl _, by unfold maxLen; omega, fun _ => rfl, .inl rfl⟩
  · simp only [if_true] at hm
    subst hm
    rw [hc] at hel
    obtain ⟨xs, k1, k2⟩ := list_of (n := len) (p := fun i (y : α) => ∃ cs', cs'.length = size ∧ (∀ j, j < size → w.cell? ((a.add (i * size)).add j) = cs'[j]?) ∧ R y w.heap.size w cs') (fun i hi => by
      obtain ⟨cs', hcs, hd⟩ := hel i (by omega)
      obtain ⟨y, hy⟩ := hR H enc w n cs' _ hd
      obtain ⟨_, g1, g2⟩ := World.cells?_some hcs
      exact ⟨y, cs', g1, g2, hy⟩)
    subst k1
    refine ⟨xs, some a, m, rfl, h1, h2, fun h => by (cases h), ?_⟩
    rcases Nat.eq_zero_or_pos xs.length with hz | hz
    · exact .inl (List.eq_nil_of_length_eq_zero hz)
    · right
      obtain ⟨b, o, sp⟩ := a
      obtain ⟨cs', g1, g2, _⟩ := k2 0 hz
      have g3 := g2 0 hpos
      have e0 : ((⟨b, o, sp⟩ : Addr).add (0 * size)).add 0 = ⟨b, o, sp⟩ := by simp [Addr.add]
      rw [e0] at g3
      obtain ⟨u, hu⟩ : ∃ u, cs'[0]? = some u := ⟨cs'[0]'(by omega), by simp [show 0 < cs'.length by omega]⟩
      rw [hu] at g3
      have hsp : sp = none := by
        cases sp with
        | none => rfl
        | some s =>
          unfold World.cell? at g3
          split at g3 <;> simp at g3
      subst hsp
      have hlt := World.block_lt_of_cell? w _ g3
      refine ⟨b, o, rfl, hlt, hlt, fun i hi => ?_⟩
      obtain ⟨cs'', f1, f2, f3⟩ := k2 i hi
      exact ⟨cs'', f1, fun j hj => by rw [← f2 j hj, add_of, add_of, Nat.add_assoc], f3⟩

/-- the fields of a struct, one behind the other -/
theorem opens_fields {P : Program} {t : TypeId} {fs : Array Field} {H : Type} {enc : TypeId × Value → H} {w : World} {fuel : Nat} {cs : List Value} {x : DataW H × List MemPlace} (ht : P.underlying t = some (.struct fs))
    (h : DataW.trod enc P w 0 (fun _ => true) true fuel t cs = some x) :
    cs.length = P.cellsOf t ∧ ∀ (i : Nat) (f : Field), fs[i]? = some f → ∃ n y, DataW.trod enc P w 0 (fun _ => true) true n f.type ((cs.drop f.offset).take (P.cellsOf f.type)) = some y := by
  obtain ⟨xs, n, _, _, hl, hlen, hf⟩ := DataW.trod_struct ht h
  refine ⟨hl, fun i f hi => ?_⟩
  have := hf i f hi
  have hlt : i < xs.length := by rw [hlen]; exact (Array.getElem?_eq_some_iff.1 hi).1
  rw [List.getElem?_eq_getElem hlt] at this
  exact ⟨n, _, this⟩

end Go.Own

end
section
namespace Go.Proofs.Ytcbkhgjjbponhaa
open Go.RowKit Go.Own
namespace Byt

/-- a slice of bytes of one's own -/
def AB (ao : Option Addr) (n cap : Nat) (l : List UInt8) : Asn := ARow 5 1 (.slice ao n cap) n (l.map byteV)
theorem AB.view {w : World} {S : Nat → Prop} {ao : Option Addr} {n cap : Nat} {l : List UInt8} (h : (AB ao n cap l).holds S w) : View w S ao l := Row.view h
theorem AB.len {w : World} {S : Nat → Prop} {ao : Option Addr} {n cap : Nat} {l : List UInt8} (h : (AB ao n cap l).holds S w) : l.length = n ∧ n ≤ cap ∧ cap ≤ maxLen ∧ (ao = none → n = 0 ∧ cap = 0) := by
  obtain ⟨ao', cap', hv, h1, h2, h3, _⟩ := Row.form h
  simp only [Value.slice.injEq, true_and] at hv
  obtain ⟨rfl, rfl⟩ := hv
  exact ⟨by have := h.own.1; simpa using this, h1, h2, fun e => ⟨(h3 e).1, (h3 e).2.1⟩⟩
section
variable {B : Nat} {w0 w : World} {Ps : List Asn} {ao : Option Addr} {n cap : Nat} {l : List UInt8}
end

/-- an array of bytes in a block of one's own -/
def A8 (b : Nat) (t : TypeId) (l : List UInt8) : Asn := AVals b t (l.map byteV)
section
variable {B : Nat} {w0 w : World} {Ps : List Asn} {b : Nat} {t : TypeId} {l : List UInt8}
theorem A8.cell (h : St B w0 w Ps) (i : Nat) (hi : Ps[i]? = some (A8 b t l)) (j : Nat) (hj : j < l.length) : w.cell? ⟨b, j, none⟩ = some (.int .u8 ((l.getD j 0).toNat : Int)) ∧ w.frozen? ⟨b, j, none⟩ = false :=
  h.cellV i hi j (by simp [byteV, hj])
theorem A8.store (h : St B w0 w Ps) (i : Nat) (hi : Ps[i]? = some (A8 b t l)) (j : Nat) (c : UInt8) : St B w0 (w.setCell ⟨b, j, none⟩ (.int .u8 (c.toNat : Int))) (Ps.set i (A8 b t (l.set j c))) := by
  have := h.storeV i hi j (byteV c)
  unfold A8
  rw [List.map_set]
  exact this
theorem A8.box (h : St B w0 w Ps) (t : TypeId) (l : List UInt8) : St B w0 (w.alloc (.cells (l.map byteV).toArray t)) (A8 w.heap.size t l :: Ps) := h.boxV t _
theorem A8.there (h : St B w0 w Ps) (i : Nat) (hi : Ps[i]? = some (A8 b t l)) (r : List UInt8) (hl : r.length = l.length) : w.there b 0 (r.map byteV).toArray.size := h.thereV i hi (by simp [hl])
theorem A8.setAll (h : St B w0 w Ps) (i : Nat) (hi : Ps[i]? = some (A8 b t l)) (r : List UInt8) (hl : r.length = l.length) : St B w0 (w.setCells b 0 (r.map byteV).toArray.toList) (Ps.set i (A8 b t r)) := by
  have := Own.St.setAll i (r.map byteV) 0 w Ps (l.map byteV) h hi (by simp [hl])
  simpa [A8] using this
theorem A8.view (h : St B w0 w Ps) (i : Nat) (hi : Ps[i]? = some (A8 b t l)) : View w (fun k => B ≤ k) (some ⟨b, 0, none⟩) l := by
  obtain ⟨h1, h2⟩ := h.ltV i hi
  exact .inr ⟨b, 0, rfl, h1, h2, fun j hj => by rw [Nat.zero_add]; exact (A8.cell h i hi j hj).1⟩
end
/-- an operation that is carried out, also behind a guard -/
theorem wpList_want {P : Program} {ops : Array Oper} {rest : List Oper} {o : Oper} {a : Act} {w : World} {Q : Exit → Act → World → Prop} (hw : Region.wanted o (yielded ops a.tmps) = true) (h : o.wp P a w (fun a' w' => wpList P ops Q rest a' w') Q) : wpList P ops Q (o :: rest) a w := by
  unfold wpList
  rw [if_pos hw]
  exact .inl h
/-- an operation whose value is known -/
theorem wpList_val {P : Program} {ops : Array Oper} {rest : List Oper} {o : Oper} {a : Act} {w : World} {Q : Exit → Act → World → Prop} (hw : Region.wanted o (yielded ops a.tmps) = true) {v : Value} (hrun : (execOp a.eval o).run P w = .ok (.value v) w) (h : wpList P ops Q rest (a.put o.dst v) w) : wpList P ops Q (o :: rest) a w := by
  refine wpList_want hw ?_
  unfold Oper.wp
  rw [hrun]
  exact h
section
variable {ao : Option Addr} {l : List UInt8} {m cap : Nat}
end

end Byt
end Go.Proofs.Ytcbkhgjjbponhaa

end
section
namespace Go.Proofs.Ytcbkhgjjbponhaa
open Go.RowKit Go.Own
namespace Byt

/-- bytes that a call may be given -/
structure Given (w : World) (ao : Option Addr) (len cap : Nat) (l : List UInt8) : Prop where
  view : View w (fun k => k < w.heap.size) ao l
  size : l.length = len
  room : len ≤ cap ∧ cap ≤ maxLen
  nil : ao = none → cap = 0
theorem Given.later {w w' : World} {ao : Option Addr} {len cap : Nat} {l : List UInt8} (h : Given w ao len cap l) (g : Below w.heap.size w w') : Given w' ao len cap l :=
  ⟨(View.below h.view g).mono (fun k hk => by have := g.size; omega), h.size, h.room, h.nil⟩

theorem i64_in {a : Int} (h : (Lit.int .i64 a).wf = true) : -9223372036854775808 ≤ a ∧ a ≤ 9223372036854775807 := by
  simp [Lit.wf, IntKind.min, IntKind.max, IntKind.signed, IntKind.bits] at h
  omega

end Byt
end Go.Proofs.Ytcbkhgjjbponhaa

end
section
namespace Go.Own
open Go.RowKit

/-- what is so of a slot's value; new memory does not touch it -/
structure Ty where
  holds : Value → World → Prop
  keep : ∀ {v : Value} {w w' : World}, holds v w → Below w.heap.size w w' → holds v w'

def Ty.is (c : Value) : Ty := ⟨fun v _ => v = c, fun h _ => h⟩

abbrev Lx := List (Tmp × Ty)

/-- what is so of slot t -/
def slotIs (I : Lx) (a : Act) (t : Tmp) (v : Value) (w : World) : Prop :=
  match I.lookup t with
  | some R => R.holds v w
  | none => v = a.tmps.getD t undef

section
variable {P : Program} {ops : Array Oper} {C : World → Prop}

theorem slotIs.keep {I : Lx} {a : Act} {t : Tmp} {v : Value} {w w' : World} (h : slotIs I a t v w) (g : Below w.heap.size w w') : slotIs I a t v w' := by
  unfold slotIs at *
  split at h
  · rename_i R e; exact R.keep h g
  · exact h

/-- an operation gives what R says, wherever it is carried out -/
def Gives (P : Program) (ops : Array Oper) (C : World → Prop) (o : Oper) (I : Lx) (a : Act) (R : Ty) : Prop :=
  ∀ a1 w, C w → (∀ t ∈ o.looksAt ops, slotIs I a t (a1.tmps.getD t undef) w) → ∀ (K : Act → World → Prop) (Q : Exit → Act → World → Prop),
    (∀ v w', R.holds v w' → Below w.heap.size w w' → K (a1.put o.dst v) w') → o.wp P a1 w K Q

/-- the guard is not one of the slots that are not known -/
def guardKnown (ops : Array Oper) (o : Oper) (I : Lx) : Bool :=
  match o.guard with
  | none => true
  | some (g, _) => match (ops[g]?).bind (·.dst) with
    | some d => (I.lookup d).isNone
    | none => true

inductive StepT (P : Program) (ops : Array Oper) (C : World → Prop) (o : Oper) : Lx → Act → Lx → Act → Prop
  | skip {I a} (hg : guardKnown ops o I = true) (hw : Region.wanted o (yielded ops a.tmps) = false) : StepT P ops C o I a I (a.put o.dst undef)
  | val {I a} (v : Value) (hg : guardKnown ops o I = true) (hw : Region.wanted o (yielded ops a.tmps) = true) (h : Gives P ops C o I a (Ty.is v)) : StepT P ops C o I a I (a.put o.dst v)
  | ty {I a} (d : Tmp) (R : Ty) (hd : o.dst = some d) (hg : guardKnown ops o I = true) (hw : Region.wanted o (yielded ops a.tmps) = true) (h : Gives P ops C o I a R) : StepT P ops C o I a ((d, R) :: I) a

/-- what the frame may be -/
structure Rep (C : World → Prop) (I : Lx) (a a1 : Act) (w1 : World) : Prop where
  world : C w1
  defers : a1.defers = a.defers
  size : a1.tmps.size = a.tmps.size
  slot : ∀ t, slotIs I a t (a1.tmps.getD t undef) w1

/-- THE WALK, in the order of the text -/
def wpT (P : Program) (ops : Array Oper) (C : World → Prop) (Q : Act → World → Prop) : List Oper → Lx → Act → Prop
  | [], I, a => ∀ a1 w1, Rep C I a a1 w1 → Q a1 w1
  | o :: rest, I, a => ∃ I' a', StepT P ops C o I a I' a' ∧ wpT P ops C Q rest I' a'

theorem wpT_path {Q : Act → World → Prop} : ∀ (l : List Oper) (I : Lx) (a : Act), wpT P ops C Q l I a →
    ∃ S : Nat → Lx × Act, S 0 = (I, a) ∧ (∀ k o, l[k]? = some o → StepT P ops C o (S k).1 (S k).2 (S (k + 1)).1 (S (k + 1)).2) ∧ ∀ a1 w1, Rep C (S l.length).1 (S l.length).2 a1 w1 → Q a1 w1
  | [], I, a, h => ⟨fun _ => (I, a), rfl, fun k o hk => by simp at hk, h⟩
  | o :: rest, I, a, ⟨I', a', h1, h2⟩ => by
    obtain ⟨S, g0, g1, g2⟩ := wpT_path rest I' a' h2
    refine ⟨fun k => match k with | 0 => (I, a) | k + 1 => S k, rfl, fun k o' hk => ?_, fun a1 w1 hr => g2 a1 w1 (by simpa using hr)⟩
    cases k with
    | zero =>
      obtain rfl : o = o' := by simpa using hk
      show StepT P ops C o I a (S 0).1 (S 0).2
      rw [g0]; exact h1
    | succ k => exact g1 k o' (by simpa using hk)

theorem put_getD (a : Act) (d t : Tmp) (v : Value) (hd : d < a.tmps.size) : (a.put (some d) v).tmps.getD t undef = if t = d then v else a.tmps.getD t undef := by
  show (a.tmps.setIfInBounds d v).getD t undef = _
  by_cases h : t = d
  · subst h; simp [hd]
  · simp [h, Array.getElem?_setIfInBounds_ne (Ne.symm h)]
theorem put_size (a : Act) (d : Option Tmp) (v : Value) : (a.put d v).tmps.size = a.tmps.size := by cases d <;> simp [Act.put]
theorem put_defers (a : Act) (d : Option Tmp) (v : Value) : (a.put d v).defers = a.defers := by cases d <;> rfl

theorem StepT.size {o : Oper} {I I' : Lx} {a a' : Act} (h : StepT P ops C o I a I' a') : a'.tmps.size = a.tmps.size ∧ a'.defers = a.defers := by
  cases h
  · exact ⟨put_size _ _ _, put_defers _ _ _⟩
  · exact ⟨put_size _ _ _, put_defers _ _ _⟩
  · exact ⟨rfl, rfl⟩

/-- a slot that the operation does not write stays -/
theorem StepT.other {o : Oper} {I I' : Lx} {a a' : Act} (h : StepT P ops C o I a I' a') {t : Tmp} (hin : ∀ d, o.dst = some d → d < a.tmps.size) (ht : o.dst ≠ some t) (v : Value) (w : World) : slotIs I' a' t v w ↔ slotIs I a t v w := by
  have hput : ∀ u, (a.put o.dst u).tmps.getD t undef = a.tmps.getD t undef := by
    intro u
    cases hd : o.dst with
    | none => rfl
    | some d => rw [put_getD a d t u (hin d hd), if_neg (fun e => ht (by rw [hd, e]))]
  cases h
  · unfold slotIs; rw [hput]
  · unfold slotIs; rw [hput]
  · rename_i d R hd hg hw h
    unfold slotIs
    rw [List.lookup_cons]
    have : (t == d) = false := by simp; intro e; exact ht (by rw [hd, e])
    simp only [this]

/-- slots of the region: each is written once, and is there -/
def dstsB (l : List Oper) (n : Nat) : Bool := (l.filterMap (·.dst)).Nodup && (l.filterMap (·.dst)).all (· < n)

theorem dsts_lt {l : List Oper} {n : Nat} (h : dstsB l n = true) {k : Nat} {o : Oper} {d : Tmp} (hk : l[k]? = some o) (hd : o.dst = some d) : d < n := by
  simp only [dstsB, Bool.and_eq_true, List.all_eq_true, decide_eq_true_eq] at h
  exact h.2 d (List.mem_filterMap.2 ⟨o, List.mem_of_getElem? hk, hd⟩)

theorem dsts_one {n : Nat} : ∀ {l : List Oper}, dstsB l n = true → ∀ {j k : Nat} {x y : Oper} {d : Tmp}, l[j]? = some x → l[k]? = some y → x.dst = some d → y.dst = some d → j = k
  | [], _, j, _, _, _, _, hj, _, _, _ => by simp at hj
  | o :: l, h, j, k, x, y, d, hj, hk, hx, hy => by
    have hrest : dstsB l n = true := by
      simp only [dstsB, Bool.and_eq_true, decide_eq_true_eq] at h ⊢
      cases ho : o.dst <;> simp_all
    have hnot : ∀ (i : Nat) (z : Oper), l[i]? = some z → o.dst = some d → z.dst ≠ some d := by
      intro i z hi hod hz
      simp only [dstsB, Bool.and_eq_true, decide_eq_true_eq, List.filterMap_cons, hod, List.nodup_cons] at h
      exact h.1.1 (List.mem_filterMap.2 ⟨z, List.mem_of_getElem? hi, hz⟩)
    cases j with
    | zero =>
      cases k with
      | zero => rfl
      | succ k =>
        obtain rfl : o = x := by simpa using hj
        exact absurd hy (hnot k y (by simpa using hk) hx)
    | succ j =>
      cases k with
      | zero =>
        obtain rfl : o = y := by simpa using hk
        exact absurd hx (hnot j x (by simpa using hj) hy)
      | succ k => rw [dsts_one hrest (j := j) (k := k) (by simpa using hj) (by simpa using hk) hx hy]

theorem wanted_looks {o : Oper} {I : Lx} {a a1 : Act} {w : World} (hg : guardKnown ops o I = true) (hs : a1.tmps.size = a.tmps.size) (h : ∀ t ∈ o.looksAt ops, slotIs I a t (a1.tmps.getD t undef) w) :
    Region.wanted o (yielded ops a1.tmps) = Region.wanted o (yielded ops a.tmps) := by
  unfold Region.wanted
  cases hgd : o.guard with
  | none => rfl
  | some gw =>
    obtain ⟨g, want⟩ := gw
    have : yielded ops a1.tmps g = yielded ops a.tmps g := by
      unfold yielded
      cases hd : (ops[g]?).bind (·.dst) with
      | none => rfl
      | some d =>
        have hm : d ∈ o.looksAt ops := by
          unfold Oper.looksAt
          refine List.mem_append_right _ ?_
          rw [hgd]
          simp [hd]
        have h1 := h d hm
        unfold slotIs at h1
        have hn : I.lookup d = none := by simpa [guardKnown, hgd, hd] using hg
        rw [hn] at h1
        simp only at h1
        simp only [Option.bind_some]
        have : a1.tmps[d]? = a.tmps[d]? := by
          by_cases hlt : d < a.tmps.size
          · have hlt1 : d < a1.tmps.size := hs ▸ hlt
            simp only [Array.getD, hlt, hlt1, dif_pos] at h1
            rw [Array.getElem?_eq_getElem hlt, Array.getElem?_eq_getElem hlt1]
            exact congrArg some h1
          · rw [Array.getElem?_eq_none (Nat.le_of_not_lt hlt), Array.getElem?_eq_none (Nat.le_of_not_lt (hs ▸ hlt))]
        rw [this]
    simp only [this]

/-- which operations a slot waits for: read off the Bool over the region -/
theorem lexFrom_free {md : Region.Mode} : ∀ (fuel k : Nat) (listed : Array Bool), Region.lexFrom md ops fuel k listed = true → k + fuel = ops.size → (∀ i, listed.getD i true = decide (i < k ∨ ops.size ≤ i)) → listed.size = ops.size →
    ∀ i oi, k ≤ i → ops[i]? = some oi → (∀ e ∈ oi.after, Region.binds md e = true → e.on < i) ∧ ∀ j oj, i < j → ops[j]? = some oj → (∃ e ∈ oj.after, Region.binds md e = true ∧ e.on = i) ∨ oi.apart ops oj = true
  | 0, k, listed, _, hk, _, _, i, oi, hi, ho => by
    have := (Array.getElem?_eq_some_iff.1 ho).1
    omega
  | fuel + 1, k, listed, h, hk, hl, hsz, i, oi, hi, ho => by
    simp only [Region.lexFrom, Bool.and_eq_true] at h
    obtain ⟨⟨hr, hf⟩, hB⟩ := h
    by_cases hik : i = k
    · subst hik
      refine ⟨fun e he hb => ?_, fun j oj hj hoj => ?_⟩
      · have hr' : i ∈ Region.ready md ops listed := by simpa using hr
        obtain ⟨_, o', ho', hall⟩ := mem_ready.1 hr'
        obtain rfl : oi = o' := by rw [ho] at ho'; simpa using ho'
        have h1 := hall e he hb
        rcases Nat.lt_or_ge e.on i with h2 | h2
        · exact h2
        · exfalso
          rcases Nat.lt_or_ge e.on ops.size with h3 | h3
          · have h4 := hl e.on
            have h5 : e.on < listed.size := by omega
            simp [h5] at h4 h1
            rw [h1] at h4
            simp at h4
            omega
          · simp [Array.getElem?_eq_none (show listed.size ≤ e.on by omega)] at h1
      · by_cases hw : ∃ e ∈ oj.after, Region.binds md e = true ∧ e.on = i
        · exact .inl hw
        · refine .inr (Region.free_spec ho hf j oj hoj (by omega) ?_ (fun e he hb heq => hw ⟨e, he, hb, heq⟩))
          rw [hl]
          have := (Array.getElem?_eq_some_iff.1 hoj).1
          simp; omega
    · refine lexFrom_free fuel (k + 1) _ hB (by omega) (fun j => ?_) (by simpa using hsz) i oi (by omega) ho
      by_cases hjk : j = k
      · subst hjk
        have : j < listed.size := by omega
        simp [this]
      · rw [getD_set_ne true (Ne.symm hjk), hl]
        exact decide_eq_decide.2 (by omega)

/-- the state of a run: what has come up, and what the frame holds -/
structure RunInv (md : Region.Mode) (n : Nat) (ops : Array Oper) (C : World → Prop) (a0 : Act) (S : Nat → Lx × Act) (listed : Array Bool) (a1 : Act) (w1 : World) : Prop where
  world : C w1
  defers : a1.defers = a0.defers
  size : a1.tmps.size = a0.tmps.size
  lsize : listed.size = ops.size
  closed : ∀ (j : Nat) (oj : Oper), ops[j]? = some oj → listed.getD j false = true → ∀ e ∈ oj.after, Region.binds md e = true → listed.getD e.on false = true
  tail : ∀ j, n ≤ j → j < ops.size → listed.getD j true = false
  done : ∀ (j : Nat) (oj : Oper) (d : Tmp), ops[j]? = some oj → listed.getD j false = true → oj.dst = some d → slotIs (S (j + 1)).1 (S (j + 1)).2 d (a1.tmps.getD d undef) w1
  rest : ∀ t, (∀ (j : Nat) (oj : Oper), ops[j]? = some oj → listed.getD j false = true → oj.dst ≠ some t) → a1.tmps.getD t undef = a0.tmps.getD t undef

theorem path_sizes {a0 : Act} {S : Nat → Lx × Act} (hS0 : S 0 = ([], a0)) {n : Nat} (hn : n ≤ ops.size) (hst : ∀ (k : Nat) (o : Oper), k < n → ops[k]? = some o → StepT P ops C o (S k).1 (S k).2 (S (k + 1)).1 (S (k + 1)).2) :
    ∀ k, k ≤ n → (S k).2.tmps.size = a0.tmps.size ∧ (S k).2.defers = a0.defers
  | 0, _ => by rw [hS0]; exact ⟨rfl, rfl⟩
  | k + 1, hk => by
    have h := path_sizes hS0 hn hst k (by omega)
    have g := (hst k ops[k] (by omega) (Array.getElem?_eq_getElem (by omega))).size
    exact ⟨g.1.trans h.1, g.2.trans h.2⟩

theorem path_other {a0 : Act} {S : Nat → Lx × Act} (hS0 : S 0 = ([], a0)) {n : Nat} (hn : n ≤ ops.size) (hst : ∀ (k : Nat) (o : Oper), k < n → ops[k]? = some o → StepT P ops C o (S k).1 (S k).2 (S (k + 1)).1 (S (k + 1)).2)
    (hin : ∀ (k : Nat) (o : Oper) (d : Tmp), ops[k]? = some o → o.dst = some d → d < a0.tmps.size) {t : Tmp} (v : Value) (w : World) (m : Nat) :
    ∀ q, m + q ≤ n → (∀ j oj, m ≤ j → j < m + q → ops[j]? = some oj → oj.dst ≠ some t) → (slotIs (S (m + q)).1 (S (m + q)).2 t v w ↔ slotIs (S m).1 (S m).2 t v w)
  | 0, _, _ => Iff.rfl
  | q + 1, hq, hno => by
    have ih := path_other hS0 hn hst hin (t := t) v w m q (by omega) (fun j oj h1 h2 => hno j oj h1 (by omega))
    have hk : ops[m + q]? = some ops[m + q] := Array.getElem?_eq_getElem (by omega)
    have hs := path_sizes hS0 hn hst (m + q) (by omega)
    exact ((hst (m + q) _ (by omega) hk).other (fun d hd => by rw [hs.1]; exact hin _ _ d hk hd) (hno (m + q) _ (by omega) (by omega) hk) v w).trans ih

theorem slot0 {a0 : Act} {S : Nat → Lx × Act} (hS0 : S 0 = ([], a0)) (t : Tmp) (v : Value) (w : World) : slotIs (S 0).1 (S 0).2 t v w ↔ v = a0.tmps.getD t undef := by
  rw [hS0]; exact Iff.rfl

theorem path_keys {a0 : Act} {S : Nat → Lx × Act} (hS0 : S 0 = ([], a0)) {n : Nat} (hn : n ≤ ops.size) (hst : ∀ (k : Nat) (o : Oper), k < n → ops[k]? = some o → StepT P ops C o (S k).1 (S k).2 (S (k + 1)).1 (S (k + 1)).2) {t : Tmp} :
    ∀ k, k ≤ n → (∀ (j : Nat) (oj : Oper), j < k → ops[j]? = some oj → oj.dst ≠ some t) → (S k).1.lookup t = none
  | 0, _, _ => by rw [hS0]; rfl
  | k + 1, hk, hno => by
    have ih := path_keys hS0 hn hst k (by omega) (fun j oj h1 h2 => hno j oj (by omega) h2)
    have hs := hst k ops[k] (by omega) (Array.getElem?_eq_getElem (by omega))
    have hd := hno k ops[k] (by omega) (Array.getElem?_eq_getElem (by omega))
    generalize S k = si at *
    generalize S (k + 1) = sj at *
    obtain ⟨Ii, ai⟩ := si
    obtain ⟨Ij, aj⟩ := sj
    cases hs with
    | skip => exact ih
    | val => exact ih
    | ty d R hdd =>
      show List.lookup t ((d, R) :: Ii) = none
      rw [List.lookup_cons]
      have : (t == d) = false := by simp; intro e; exact hd (by rw [hdd, e])
      simp only [this]
      exact ih

/-- WHATEVER ORDER IS DRAWN -/
theorem wpAny_lax {md : Region.Mode} {Q' : Exit → Act → World → Prop} (hC : ∀ w w', C w → Below w.heap.size w w' → C w') {a0 : Act} {S : Nat → Lx × Act} (hS0 : S 0 = ([], a0))
    {n : Nat} (hn : n ≤ ops.size) (hst : ∀ (k : Nat) (o : Oper), k < n → ops[k]? = some o → StepT P ops C o (S k).1 (S k).2 (S (k + 1)).1 (S (k + 1)).2)
    (hin : ∀ (k : Nat) (o : Oper) (d : Tmp), ops[k]? = some o → o.dst = some d → d < a0.tmps.size)
    (hone : ∀ (j k : Nat) (x y : Oper) (d : Tmp), ops[j]? = some x → ops[k]? = some y → x.dst = some d → y.dst = some d → j = k)
    (hlex : ∀ (i : Nat) (oi : Oper), ops[i]? = some oi → (∀ e ∈ oi.after, Region.binds md e = true → e.on < i) ∧ ∀ j oj, i < j → ops[j]? = some oj → (∃ e ∈ oj.after, Region.binds md e = true ∧ e.on = i) ∨ oi.apart ops oj = true)
    (hwait : ∀ (i : Nat) (oi : Oper), n ≤ i → ops[i]? = some oi → ∀ j, j < n → ∃ e ∈ oi.after, Region.binds md e = true ∧ e.on = j)
    (hfin : ∀ (fuel : Nat) (listed : Array Bool) (a1 : Act) (w1 : World), (∃ s, (List.range ops.size).filter (fun i => !listed.getD i true) = s ∧ s.length = fuel) → listed.size = ops.size → (∀ i, i < n → listed.getD i true = true) → (∀ j, n ≤ j → j < ops.size → listed.getD j true = false) → Rep C (S n).1 (S n).2 a1 w1 → wpAny P md ops Q' fuel listed a1 w1) :
    ∀ (fuel : Nat) (listed : Array Bool) (a1 : Act) (w1 : World), (∃ s, (List.range ops.size).filter (fun i => !listed.getD i true) = s ∧ s.length = fuel) → RunInv md n ops C a0 S listed a1 w1 → wpAny P md ops Q' fuel listed a1 w1 := by
  -- all that is not listed: none is ready only if none is left
  have hready : ∀ listed : Array Bool, listed.size = ops.size → Region.ready md ops listed = [] → ∀ i, i < ops.size → listed.getD i true = true := by
    intro listed hls hr i
    induction i using Nat.strongRecOn with
    | _ i ih =>
      intro hi
      rcases hb : listed.getD i true with _ | _
      · exfalso
        have : i ∈ Region.ready md ops listed := by
          refine mem_ready.2 ⟨hb, ops[i], Array.getElem?_eq_getElem hi, fun e he hbd => ?_⟩
          have h1 := (hlex i _ (Array.getElem?_eq_getElem hi)).1 e he hbd
          have h2 := ih e.on h1 (by omega)
          have h3 : e.on < listed.size := by omega
          simpa [h3] using h2
        rw [hr] at this
        cases this
      · rfl
  have hend : ∀ (fuel : Nat) (listed : Array Bool) (a1 : Act) (w1 : World), (∃ s, (List.range ops.size).filter (fun i => !listed.getD i true) = s ∧ s.length = fuel) → RunInv md n ops C a0 S listed a1 w1 → (∀ i, i < n → listed.getD i true = true) → wpAny P md ops Q' fuel listed a1 w1 := by
    intro fuel listed a1 w1 hcnt hI hall
    have hsz := path_sizes hS0 hn hst n (Nat.le_refl _)
    refine hfin fuel listed a1 w1 hcnt hI.lsize hall hI.tail ⟨hI.world, hI.defers.trans hsz.2.symm, hI.size.trans hsz.1.symm, fun t => ?_⟩
    by_cases hw : ∃ (j : Nat) (oj : Oper), j < n ∧ ops[j]? = some oj ∧ oj.dst = some t
    · obtain ⟨j, oj, hjn, hj, hd⟩ := hw
      have hjl := (Array.getElem?_eq_some_iff.1 hj).1
      have hl : listed.getD j false = true := by
        have h1 := hall j hjn
        have h2 : j < listed.size := by rw [hI.lsize]; exact hjl
        simpa [h2] using h1
      have h1 := hI.done j oj t hj hl hd
      have h2 := path_other hS0 hn hst hin (t := t) (a1.tmps.getD t undef) w1 (j + 1) (n - (j + 1)) (by omega) (fun i oi h1 h2 hi hdi => by
        have := hone i j oi oj t hi hj hdi hd; omega)
      rw [show j + 1 + (n - (j + 1)) = n by omega] at h2
      exact h2.2 h1
    · have h1 := hI.rest t (fun j oj hj hl hd => by
        by_cases hjn : j < n
        · exact hw ⟨j, oj, hjn, hj, hd⟩
        · have hjl := (Array.getElem?_eq_some_iff.1 hj).1
          have := hI.tail j (by omega) hjl
          have h2 : j < listed.size := by rw [hI.lsize]; exact hjl
          simp [h2] at this hl
          rw [this] at hl; cases hl)
      have h2 := path_other hS0 hn hst hin (t := t) (a1.tmps.getD t undef) w1 0 n (by omega) (fun j oj _ h2 hj hd => hw ⟨j, oj, by omega, hj, hd⟩)
      rw [Nat.zero_add] at h2
      exact h2.2 ((slot0 hS0 t _ w1).2 h1)
  intro fuel
  induction fuel with
  | zero =>
    rintro listed a1 w1 ⟨s, hs, hlen⟩ hI
    refine hend 0 listed a1 w1 ⟨s, hs, hlen⟩ hI (fun i hi => ?_)
    have hnil : s = [] := List.eq_nil_of_length_eq_zero hlen
    subst hnil
    have := List.filter_eq_nil_iff.1 hs i (List.mem_range.2 (by omega))
    simpa using this
  | succ fuel ih =>
    rintro listed a1 w1 ⟨s, hs, hlen⟩ hI
    by_cases hdone : ∀ i, i < n → listed.getD i true = true
    · exact hend (fuel + 1) listed a1 w1 ⟨s, hs, hlen⟩ hI hdone
    refine ⟨fun h0 => absurd (fun i hi => hready listed hI.lsize h0 i (by omega)) hdone, fun i hi => ?_⟩
    obtain ⟨hun, oi, hoi, hall⟩ := mem_ready.1 hi
    have hin' : i < n := by
      rcases Nat.lt_or_ge i n with h | h
      · exact h
      · exfalso
        refine hdone (fun j hj => ?_)
        obtain ⟨e, he, hb, heq⟩ := hwait i oi h hoi j hj
        have h1 := hall e he hb
        rw [heq] at h1
        have h2 : j < listed.size := by rw [hI.lsize]; omega
        simpa [h2] using h1
    have hil := (Array.getElem?_eq_some_iff.1 hoi).1
    have hill : i < listed.size := by rw [hI.lsize]; exact hil
    have hunf : listed.getD i false = false := by simpa [hill] using hun
    have hcount : ∃ s', (List.range ops.size).filter (fun j => !(listed.setIfInBounds i true).getD j true) = s' ∧ s'.length = fuel := by
      refine ⟨_, rfl, ?_⟩
      have hn : (List.range ops.size).Nodup := List.nodup_range
      have e : (List.range ops.size).filter (fun j => !(listed.setIfInBounds i true).getD j true) = ((List.range ops.size).filter fun j => !listed.getD j true).erase i := by
        rw [List.Nodup.erase_eq_filter (List.Pairwise.filter _ hn), List.filter_filter]
        apply List.filter_congr
        intro j hj
        by_cases hji : j = i
        · subst hji; simp [hill]
        · rw [getD_set_ne true (Ne.symm hji)]; simp [hji]
      rw [e, List.length_erase_of_mem (List.mem_filter.2 ⟨List.mem_range.2 hil, by simp only [hun]; rfl⟩), hs, hlen]
      rfl
    -- what the operation looks at is as the walk had it
    have hlook : ∀ t ∈ oi.looksAt ops, slotIs (S i).1 (S i).2 t (a1.tmps.getD t undef) w1 := by
      intro t ht
      have hback : (∀ (j : Nat) (oj : Oper), ops[j]? = some oj → oj.dst = some t → i ≤ j) → (∀ (j : Nat) (oj : Oper), ops[j]? = some oj → oj.dst = some t → listed.getD j false = false) → slotIs (S i).1 (S i).2 t (a1.tmps.getD t undef) w1 := by
        intro h1 h2
        have h3 := path_other hS0 hn hst hin (t := t) (a1.tmps.getD t undef) w1 0 i (by omega) (fun j oj _ hj ho hd => by have := h1 j oj ho hd; omega)
        rw [Nat.zero_add] at h3
        refine h3.2 ((slot0 hS0 t _ w1).2 (hI.rest t (fun j oj hj hl hd => ?_)))
        rw [h2 j oj hj hd] at hl; cases hl
      by_cases hw : ∃ (j : Nat) (oj : Oper), ops[j]? = some oj ∧ oj.dst = some t
      · obtain ⟨j, oj, hj, hd⟩ := hw
        have huniq : ∀ (j' : Nat) (oj' : Oper), ops[j']? = some oj' → oj'.dst = some t → j' = j := fun j' oj' h1 h2 => hone j' j oj' oj t h1 hj h2 hd
        rcases Nat.lt_trichotomy j i with hji | hji | hji
        · rcases (hlex j oj hj).2 i oi hji hoi with ⟨e, he, hb, heq⟩ | hap
          · have hl : listed.getD j false = true := by rw [← heq]; exact hall e he hb
            have h1 := hI.done j oj t hj hl hd
            have h2 := path_other hS0 hn hst hin (t := t) (a1.tmps.getD t undef) w1 (j + 1) (i - (j + 1)) (by omega) (fun j' oj' h1 _ h3 h4 => by have := huniq j' oj' h3 h4; omega)
            rw [show j + 1 + (i - (j + 1)) = i by omega] at h2
            exact h2.2 h1
          · exact absurd ht ((Oper.apart_spec hap).1 t hd)
        · subst hji
          refine hback (fun j' oj' h1 h2 => by have := huniq j' oj' h1 h2; omega) (fun j' oj' h1 h2 => by rw [huniq j' oj' h1 h2]; exact hunf)
        · rcases (hlex i oi hoi).2 j oj hji hj with ⟨e, he, hb, heq⟩ | hap
          · refine hback (fun j' oj' h1 h2 => by have := huniq j' oj' h1 h2; omega) (fun j' oj' h1 h2 => ?_)
            rw [huniq j' oj' h1 h2]
            rcases hlj : listed.getD j false with _ | _
            · rfl
            · have := hI.closed j oj hj hlj e he hb
              rw [heq, hunf] at this; cases this
          · exact absurd ht ((Oper.apart_spec hap).2.2 t hd)
      · exact hback (fun j oj h1 h2 => absurd ⟨j, oj, h1, h2⟩ hw) (fun j oj h1 h2 => absurd ⟨j, oj, h1, h2⟩ hw)
    have hsz := path_sizes hS0 hn hst i (by omega)
    have hsame : a1.tmps.size = (S i).2.tmps.size := hI.size.trans hsz.1.symm
    -- behind it
    have hnext : ∀ (v : Value) (w' : World), (∀ d, oi.dst = some d → slotIs (S (i + 1)).1 (S (i + 1)).2 d v w') → Below w1.heap.size w1 w' → RunInv md n ops C a0 S (listed.setIfInBounds i true) (a1.put oi.dst v) w' := by
      intro v w' hv hb
      have hget : ∀ t, oi.dst ≠ some t → (a1.put oi.dst v).tmps.getD t undef = a1.tmps.getD t undef := by
        intro t ht
        cases hd : oi.dst with
        | none => rfl
        | some d => rw [put_getD a1 d t v (by rw [hI.size]; exact hin i oi d hoi hd), if_neg (fun e => ht (by rw [hd, e]))]
      have hlist : ∀ j, (listed.setIfInBounds i true).getD j false = true → j = i ∨ listed.getD j false = true := by
        intro j hj
        by_cases hji : j = i
        · exact .inl hji
        · rw [getD_set_ne false (Ne.symm hji)] at hj; exact .inr hj
      refine ⟨hC _ _ hI.world hb, (put_defers _ _ _).trans hI.defers, (put_size _ _ _).trans hI.size, by simpa using hI.lsize, fun j oj hj hl e he hbd => ?_, fun j hnj hjl => ?_, fun j oj d hj hl hd => ?_, fun t ht => ?_⟩
      · rcases hlist j hl with rfl | hl
        · obtain rfl : oj = oi := by rw [hoi] at hj; simpa using hj.symm
          exact getD_set_true (hall e he hbd)
        · exact getD_set_true (hI.closed j oj hj hl e he hbd)
      · rw [getD_set_ne true (by omega)]; exact hI.tail _ hnj hjl
      · rcases hlist j hl with rfl | hl
        · obtain rfl : oj = oi := by rw [hoi] at hj; simpa using hj.symm
          rw [hd, put_getD a1 d d v (by rw [hI.size]; exact hin j oj d hj hd), if_pos rfl]
          exact hv d hd
        · have hne : oi.dst ≠ some d := by
            intro h
            have := hone i j oi oj d hoi hj h hd
            subst this
            rw [hunf] at hl; cases hl
          rw [hget d hne]
          exact (hI.done j oj d hj hl hd).keep hb
      · have hne : oi.dst ≠ some t := ht i oi hoi (by simp [hill])
        rw [hget t hne]
        exact hI.rest t (fun j oj hj hl => ht j oj hj (getD_set_true hl))
    have hkey : ∀ d, oi.dst = some d → (S i).1.lookup d = none := fun d hd => path_keys hS0 hn hst i (by omega) (fun j oj h1 h2 h3 => by have := hone j i oj oi d h2 hoi h3 hd; omega)
    have hstep := hst i oi hin' hoi
    unfold wpOp
    simp only [hoi]
    generalize hSi : S i = si at *
    generalize hSj : S (i + 1) = sj at *
    obtain ⟨Ii, ai⟩ := si
    obtain ⟨Ij, aj⟩ := sj
    simp only at hstep hlook hnext hsame hkey
    cases hstep with
    | skip hg hw =>
      rw [wanted_looks hg hsame hlook, hw]
      simp only [Bool.false_eq_true, if_false]
      refine ih _ _ _ hcount (hnext undef w1 (fun d hd => ?_) (Below.refl _ _))
      unfold slotIs
      rw [hkey d hd, hd]
      simp only
      rw [put_getD ai d d undef (by rw [← hsame, hI.size]; exact hin i oi d hoi hd), if_pos rfl]
    | val v hg hw h =>
      rw [wanted_looks hg hsame hlook, hw]
      simp only [if_true]
      refine .inl (h a1 w1 hI.world hlook _ _ (fun u w' hu hb => ih _ _ _ hcount (hnext u w' (fun d hd => ?_) hb)))
      unfold slotIs
      rw [hkey d hd, hd]
      simp only
      rw [put_getD ai d d v (by rw [← hsame, hI.size]; exact hin i oi d hoi hd), if_pos rfl]
      exact hu
    | ty d R hd hg hw h =>
      rw [wanted_looks hg hsame hlook, hw]
      simp only [if_true]
      refine .inl (h a1 w1 hI.world hlook _ _ (fun u w' hu hb => ih _ _ _ hcount (hnext u w' (fun d' hd' => ?_) hb)))
      obtain rfl : d = d' := by rw [hd] at hd'; simpa using hd'
      unfold slotIs
      rw [List.lookup_cons]
      simp only [BEq.rfl]
      exact hu

theorem count_none (n : Nat) : (List.range n).filter (fun i => !(Array.replicate n false).getD i true) = List.range n := by
  apply List.filter_eq_self.2
  intro i hi
  have := List.mem_range.1 hi
  simp [this]

theorem start_inv {md : Region.Mode} {n : Nat} {a : Act} {w : World} {S : Nat → Lx × Act} (hC : C { w with drawn := w.drawn + 1 }) : RunInv md n ops C a S (Array.replicate ops.size false) a { w with drawn := w.drawn + 1 } := by
  have hf : ∀ j, (Array.replicate ops.size false).getD j false = true → False := by
    intro j hl
    by_cases hi : j < ops.size <;> simp [hi] at hl
  exact ⟨hC, rfl, rfl, by simp, fun j oj hj hl => (hf j hl).elim, fun j _ hj => by simp [hj], fun j oj d hj hl => (hf j hl).elim, fun t _ => rfl⟩

/-- THE REGION -/
theorem wp_region_lax {id : Nat} {Q : Exit → Act → World → Prop} {a : Act} {w : World} {l : List Oper} (hm : P.follows .mixedOrders = true) (hB : Region.lexB .any l.toArray = true) (hD : dstsB l a.tmps.size = true)
    (h : wpT P l.toArray (Below w.heap.size w) (fun a' w' => Q .normal a' w') l [] a) : (Code.region id l.toArray true).wp P Q a w := by
  obtain ⟨S, hS0, hst, hfin⟩ := wpT_path l [] a h
  have hB' : Region.lexFrom .any l.toArray l.toArray.size 0 (Array.replicate l.toArray.size false) = true := by
    simp only [Region.lexB, Bool.and_eq_true] at hB; exact hB.2
  refine wp_region_any hm ?_
  refine wpAny_lax (P := P) (ops := l.toArray) (C := Below w.heap.size w) (md := .any) (a0 := a) (S := S) (fun w1 w2 h1 h2 => h1.trans (h2.mono h1.size)) hS0 (n := l.toArray.size) (Nat.le_refl _) (fun k o _ hk => hst k o (by simpa using hk))
    (fun k o d hk hd => dsts_lt hD (k := k) (by simpa using hk) hd) (fun j k x y d hj hk hx hy => dsts_one hD (j := j) (k := k) (by simpa using hj) (by simpa using hk) hx hy)
    (fun i oi hi => lexFrom_free _ 0 _ hB' (by simp) (fun i => ?_) (by simp) i oi (Nat.zero_le _) hi) (fun i oi hi ho => absurd (Array.getElem?_eq_some_iff.1 ho).1 (by omega))
    (fun fuel listed a1 w1 ⟨s, hs, hlen⟩ hls hall _ hr => ?_) _ _ _ _ ⟨_, rfl, ?_⟩ (start_inv ⟨rfl, rfl, rfl, Nat.le_refl _, fun _ _ => rfl⟩)
  · by_cases hi : i < l.length
    · simp [hi]
    · simp [hi]; omega
  · have hq : Q .normal a1 w1 := hfin a1 w1 (by simpa using hr)
    have hnr : Region.ready .any l.toArray listed = [] := by
      apply List.eq_nil_iff_forall_not_mem.2
      intro i hi
      obtain ⟨h0, o, ho, _⟩ := mem_ready.1 hi
      have := hall i (Array.getElem?_eq_some_iff.1 ho).1
      rw [this] at h0; cases h0
    exact wpAny_done hnr hq fuel
  · rw [count_none]; simp

/-! ### The steps of the walk -/
section steps
variable {Q : Act → World → Prop} {o : Oper} {rest : List Oper} {I : Lx} {a : Act}

theorem wpT_skip (hg : guardKnown ops o I = true) (hw : Region.wanted o (yielded ops a.tmps) = false) (k : wpT P ops C Q rest I (a.put o.dst undef)) : wpT P ops C Q (o :: rest) I a :=
  ⟨_, _, .skip hg hw, k⟩

/-- an operand that is known -/
def known (I : Lx) : Operand → Bool
  | .tmp t => (I.lookup t).isNone
  | _ => true

theorem looks_of_operand {x : Operand} {t : Tmp} (h : x ∈ o.op.operands) (hx : x = .tmp t) : t ∈ o.looksAt ops :=
  List.mem_append_left _ (List.mem_filterMap.2 ⟨x, by simpa using h, by rw [hx]⟩)

theorem known_eval {x : Operand} {a1 : Act} {w : World} (hx : known I x = true) (hm : x ∈ o.op.operands) (ht : ∀ t ∈ o.looksAt ops, slotIs I a t (a1.tmps.getD t undef) w) : a1.eval x = a.eval x := by
  cases x with
  | tmp t =>
    have h := ht t (looks_of_operand hm rfl)
    unfold slotIs at h
    have : I.lookup t = none := by simpa [known] using hx
    rw [this] at h
    exact h
  | _ => rfl

theorem wpT_move {x : Operand} (v : Value) (ho : o.op = .move x) (hv : a.eval x = v) (hx : known I x = true) (hg : guardKnown ops o I = true) (hw : Region.wanted o (yielded ops a.tmps) = true) (k : wpT P ops C Q rest I (a.put o.dst v)) : wpT P ops C Q (o :: rest) I a :=
  ⟨_, _, .val v hg hw (fun a1 w _ ht K Q' hK => by
    have e := known_eval hx (by rw [ho]; simp [Op.operands]) ht
    unfold Oper.wp
    simp only [ho, execOp]
    rw [e, hv]
    exact hK _ _ rfl (Below.refl _ _)), k⟩

theorem wpT_assign {x : Operand} (v : Value) (ho : o.op = .assign x) (hv : a.eval x = v) (hx : known I x = true) (hg : guardKnown ops o I = true) (hw : Region.wanted o (yielded ops a.tmps) = true) (k : wpT P ops C Q rest I (a.put o.dst v)) : wpT P ops C Q (o :: rest) I a :=
  ⟨_, _, .val v hg hw (fun a1 w _ ht K Q' hK => by
    have e := known_eval hx (by rw [ho]; simp [Op.operands]) ht
    unfold Oper.wp
    simp only [ho, execOp]
    rw [e, hv]
    exact hK _ _ rfl (Below.refl _ _)), k⟩

def notSelect (o : Oper) : Bool := match o.op with | .select .. => false | _ => true

/-- an operation over known slots: run once, in any world of the class -/
theorem wpT_run (v : Value) (hs : notSelect o = true) (hl : (o.op.operands.toList.all (known I)) = true) (hg : guardKnown ops o I = true) (hw : Region.wanted o (yielded ops a.tmps) = true)
    (hrun : ∀ w, C w → (execOp a.eval o).run P w = .ok (.value v) w) (k : wpT P ops C Q rest I (a.put o.dst v)) : wpT P ops C Q (o :: rest) I a :=
  ⟨_, _, .val v hg hw (fun a1 w hC ht K Q' hK => by
    have e : execOp a1.eval o = execOp a.eval o := execOp_congr o (fun cs b h => by simp [notSelect, h] at hs) fun x hx => known_eval (by
      simp only [List.all_eq_true] at hl
      exact hl x (by simpa using hx)) hx ht
    unfold Oper.wp
    rw [e, hrun w hC]
    exact hK _ _ rfl (Below.refl _ _)), k⟩

/-- a call over known slots -/
theorem wpT_call (v : Value) {f : FuncId} (args : Array Value) (hs : notSelect o = true) (hl : (o.op.operands.toList.all (known I)) = true) (hg : guardKnown ops o I = true) (hw : Region.wanted o (yielded ops a.tmps) = true)
    (hent : ∀ w, (execOp a.eval o).run P w = .ok (.enter f args) w) (hc : ∀ w, C w → Calls P f args w fun e w' => e = .returned v ∧ Below w.heap.size w w') (k : wpT P ops C Q rest I (a.put o.dst v)) : wpT P ops C Q (o :: rest) I a :=
  ⟨_, _, .val v hg hw (fun a1 w hC ht K Q' hK => by
    have e : execOp a1.eval o = execOp a.eval o := execOp_congr o (fun cs b h => by simp [notSelect, h] at hs) fun x hx => known_eval (by
      simp only [List.all_eq_true] at hl
      exact hl x (by simpa using hx)) hx ht
    unfold Oper.wp
    rw [e, hent w]
    exact (hc w hC).mono fun e w' ⟨he, hb⟩ => by subst he; exact hK _ _ rfl hb), k⟩

/-- what is asked at the end: whatever the slots that are not known hold -/
def FinQ (Q : Act → World → Prop) : Lx → Act → World → Prop
  | [], a, w => Q a w
  | (d, R) :: I, a, w => ∀ v, R.holds v w → FinQ Q I (a.put (some d) v) w

theorem rep_fin {n : Nat} : ∀ (I : Lx) (a a1 : Act) (w1 : World), a.tmps.size = n → (I.map (·.1)).Nodup → (∀ d ∈ I.map (·.1), d < n) → Rep C I a a1 w1 → FinQ Q I a w1 → Q a1 w1
  | [], a, a1, w1, hn, _, _, h, hq => by
    have : a1 = a := by
      obtain ⟨t1, d1⟩ := a1
      obtain ⟨t0, d0⟩ := a
      have e1 : t1 = t0 := by
        have hs : t1.size = t0.size := h.size
        apply Array.ext hs
        intro i h1 h2
        have := h.slot i
        have e : t1.getD i undef = t0.getD i undef := this
        simpa [h1, h2] using e
      have e2 : d1 = d0 := h.defers
      rw [e1, e2]
    rw [this]; exact hq
  | (d, R) :: I, a, a1, w1, hn, hk, hr, h, hq => by
    have hd : R.holds (a1.tmps.getD d undef) w1 := by
      have := h.slot d
      unfold slotIs at this
      rw [List.lookup_cons] at this
      simpa using this
    simp only [List.map_cons, List.nodup_cons] at hk
    have hdn : d < a.tmps.size := by rw [hn]; exact hr d (by simp)
    refine rep_fin I (a.put (some d) (a1.tmps.getD d undef)) a1 w1 (by rw [put_size]; exact hn) hk.2 (fun d' hd' => hr d' (by simp only [List.map_cons, List.mem_cons]; exact .inr hd')) ⟨h.world, by rw [put_defers]; exact h.defers, by rw [put_size]; exact h.size, fun t => ?_⟩ (hq _ hd)
    by_cases ht : t = d
    · subst ht
      have hno : I.lookup t = none := by
        cases hl : I.lookup t with
        | none => rfl
        | some R' =>
          exfalso
          have := List.lookup_eq_some_iff.1 hl
          obtain ⟨l1, l2, e, _⟩ := this
          exact hk.1 (by rw [e]; simp)
      unfold slotIs
      rw [hno]
      simp only
      rw [put_getD a t t _ hdn, if_pos rfl]
    · have := h.slot t
      unfold slotIs at this ⊢
      rw [List.lookup_cons] at this
      have hb : (t == d) = false := by simpa using ht
      simp only [hb] at this
      rw [put_getD a d t _ hdn, if_neg ht]
      exact this

theorem wpT_end (hk : ((I.map (·.1)).Nodup && (I.map (·.1)).all (· < a.tmps.size)) = true) (h : ∀ w, C w → FinQ Q I a w) : wpT P ops C Q [] I a := fun a1 w1 hr => by
  simp only [Bool.and_eq_true, decide_eq_true_eq, List.all_eq_true] at hk
  exact rep_fin I a a1 w1 rfl hk.1 hk.2 hr (h w1 hr.world)
end steps


/-! ### The same over a frame that is a list -/
section lists
variable {Q : Act → World → Prop} {o : Oper} {rest : List Oper} {I : Lx} {fs : List Value} {ds : List Deferred}

def mkA (fs : List Value) (ds : List Deferred) : Act := ⟨fs.toArray, ds⟩
def setL (fs : List Value) (d : Option Tmp) (v : Value) : List Value := match d with | some d => fs.set d v | none => fs
theorem mkA_put (d : Option Tmp) (v : Value) : (mkA fs ds).put d v = mkA (setL fs d v) ds := by
  cases d with
  | none => rfl
  | some d => simp [mkA, setL, Act.put]

/-- what an operand is -/
def ev (fs : List Value) : Operand → Value
  | .tmp t => fs.getD t undef
  | .const v => v
  | .global g => .pointer (some ⟨g, 0, none⟩)
  | .func f => .func (.func f) #[] #[]
theorem mkA_eval (x : Operand) : (mkA fs ds).eval x = ev fs x := by
  cases x with
  | tmp t => simp [mkA, ev, Act.eval]
  | _ => rfl
theorem mkA_evalF : (mkA fs ds).eval = ev fs := funext mkA_eval

def wantedL (ops : Array Oper) (fs : List Value) (o : Oper) : Bool :=
  match o.guard with
  | none => true
  | some (g, want) => match (ops.toList[g]?).bind (·.dst) with
    | none => Region.wanted o (fun _ => none)
    | some d => match fs[d]? with
      | some (.bool b) => Region.wanted o (fun _ => some b)
      | _ => Region.wanted o (fun _ => none)

theorem wantedL_eq : Region.wanted o (yielded ops (mkA fs ds).tmps) = wantedL ops fs o := by
  unfold wantedL Region.wanted
  cases hg : o.guard with
  | none => rfl
  | some gw =>
    obtain ⟨g, want⟩ := gw
    have e : ops.toList[g]? = ops[g]? := by simp
    simp only [e]
    have hy : yielded ops (mkA fs ds).tmps g = match (ops[g]?).bind (·.dst) with | none => none | some d => match fs[d]? with | some (.bool b) => some b | _ => none := by
      unfold yielded
      cases hd : (ops[g]?).bind (·.dst) with
      | none => rfl
      | some d =>
        simp only [mkA, Option.bind_some, List.getElem?_toArray]
        cases fs[d]? with
        | none => rfl
        | some v => cases v <;> rfl
    simp only [hy]
    cases hd : (ops[g]?).bind (·.dst) with
    | none => rfl
    | some d =>
      simp only
      cases fs[d]? with
      | none => rfl
      | some v => cases v <;> rfl

/-- THE WALK over a list -/
def wpL (P : Program) (ops : Array Oper) (C : World → Prop) (Q : Act → World → Prop) (ds : List Deferred) (l : List Oper) (I : Lx) (fs : List Value) : Prop := wpT P ops C Q l I (mkA fs ds)

theorem wp_lax_list {id : Nat} {Q : Exit → Act → World → Prop} {w : World} {l : List Oper} (hm : P.follows .mixedOrders = true) (hB : Region.lexB .any l.toArray = true) (hD : dstsB l fs.length = true)
    (h : wpL P l.toArray (Below w.heap.size w) (fun a' w' => Q .normal a' w') ds l [] fs) : (Code.region id l.toArray true).wp P Q ⟨fs.toArray, ds⟩ w :=
  wp_region_lax hm hB (by simpa using hD) h

theorem wpL_skip (hg : guardKnown ops o I = true) (hw : wantedL ops fs o = false) (k : wpL P ops C Q ds rest I (setL fs o.dst undef)) : wpL P ops C Q ds (o :: rest) I fs :=
  wpT_skip hg (wantedL_eq.trans hw) (by rw [mkA_put]; exact k)

theorem wpL_move {x : Operand} (v : Value) (ho : o.op = .move x) (hv : ev fs x = v) (hx : known I x = true) (hg : guardKnown ops o I = true) (hw : wantedL ops fs o = true) (k : wpL P ops C Q ds rest I (setL fs o.dst v)) : wpL P ops C Q ds (o :: rest) I fs :=
  wpT_move v ho ((mkA_eval x).trans hv) hx hg (wantedL_eq.trans hw) (by rw [mkA_put]; exact k)
theorem wpL_assign {x : Operand} (v : Value) (ho : o.op = .assign x) (hv : ev fs x = v) (hx : known I x = true) (hg : guardKnown ops o I = true) (hw : wantedL ops fs o = true) (k : wpL P ops C Q ds rest I (setL fs o.dst v)) : wpL P ops C Q ds (o :: rest) I fs :=
  wpT_assign v ho ((mkA_eval x).trans hv) hx hg (wantedL_eq.trans hw) (by rw [mkA_put]; exact k)
theorem wpL_run (v : Value) (hs : notSelect o = true) (hl : (o.op.operands.toList.all (known I)) = true) (hg : guardKnown ops o I = true) (hw : wantedL ops fs o = true)
    (hrun : ∀ w, C w → (execOp (ev fs) o).run P w = .ok (.value v) w) (k : wpL P ops C Q ds rest I (setL fs o.dst v)) : wpL P ops C Q ds (o :: rest) I fs :=
  wpT_run v hs hl hg (wantedL_eq.trans hw) (by rw [mkA_evalF]; exact hrun) (by rw [mkA_put]; exact k)
theorem wpL_call (v : Value) {f : FuncId} (args : Array Value) (hs : notSelect o = true) (hl : (o.op.operands.toList.all (known I)) = true) (hg : guardKnown ops o I = true) (hw : wantedL ops fs o = true)
    (hent : ∀ w, (execOp (ev fs) o).run P w = .ok (.enter f args) w) (hc : ∀ w, C w → Calls P f args w fun e w' => e = .returned v ∧ Below w.heap.size w w') (k : wpL P ops C Q ds rest I (setL fs o.dst v)) : wpL P ops C Q ds (o :: rest) I fs :=
  wpT_call v args hs hl hg (wantedL_eq.trans hw) (by rw [mkA_evalF]; exact hent) hc (by rw [mkA_put]; exact k)
/-- run against a frame that is a variable, from what its operands are -/
theorem wpL_run1 {x : Operand} (vx v : Value) (hx : ev fs x = vx) (hs : notSelect o = true) (hl : (o.op.operands.toList.all (known I)) = true) (hg : guardKnown ops o I = true) (hw : wantedL ops fs o = true)
    (hrun : ∀ w (ρ : Operand → Value), C w → ρ x = vx → (∀ c, ρ (.const c) = c) → (execOp ρ o).run P w = .ok (.value v) w) (k : wpL P ops C Q ds rest I (setL fs o.dst v)) : wpL P ops C Q ds (o :: rest) I fs :=
  wpL_run v hs hl hg hw (fun w hC => hrun w _ hC hx fun _ => rfl) k
theorem wpL_run2 {x y : Operand} (vx vy v : Value) (hx : ev fs x = vx) (hy : ev fs y = vy) (hs : notSelect o = true) (hl : (o.op.operands.toList.all (known I)) = true) (hg : guardKnown ops o I = true) (hw : wantedL ops fs o = true)
    (hrun : ∀ w (ρ : Operand → Value), C w → ρ x = vx → ρ y = vy → (∀ c, ρ (.const c) = c) → (execOp ρ o).run P w = .ok (.value v) w) (k : wpL P ops C Q ds rest I (setL fs o.dst v)) : wpL P ops C Q ds (o :: rest) I fs :=
  wpL_run v hs hl hg hw (fun w hC => hrun w _ hC hx hy fun _ => rfl) k
theorem wpL_run3 {x y z : Operand} (vx vy vz v : Value) (hx : ev fs x = vx) (hy : ev fs y = vy) (hz : ev fs z = vz) (hs : notSelect o = true) (hl : (o.op.operands.toList.all (known I)) = true) (hg : guardKnown ops o I = true) (hw : wantedL ops fs o = true)
    (hrun : ∀ w (ρ : Operand → Value), C w → ρ x = vx → ρ y = vy → ρ z = vz → (∀ c, ρ (.const c) = c) → (execOp ρ o).run P w = .ok (.value v) w) (k : wpL P ops C Q ds rest I (setL fs o.dst v)) : wpL P ops C Q ds (o :: rest) I fs :=
  wpL_run v hs hl hg hw (fun w hC => hrun w _ hC hx hy hz fun _ => rfl) k

theorem enter_of {P : Program} {f : FuncId} {xs : List Operand} {ts : Array TypeId} {o : Oper} {w : World} (ho : o.op = .call { callee := .value (.func f), args := xs.toArray, argTypes := ts }) (ρ : Operand → Value) (hρ : ρ (.func f) = .func (.func f) #[] #[])
    (hfn : ∀ (args : Array Value) w, (callFunc f args).run P w = .ok (.enter f args) w) : (execOp ρ o).run P w = .ok (.enter f (xs.map ρ).toArray) w := by
  simp [execOp, ho, resolve, hρ, Deferred.ofValue, invoke, go_sem, hfn]

theorem all_known {f : FuncId} {xs : List Operand} {ts : Array TypeId} (ho : o.op = .call { callee := .value (.func f), args := xs.toArray, argTypes := ts }) (hk : xs.all (known I) = true) : o.op.operands.toList.all (known I) = true := by
  rw [ho]
  simp [Op.operands, Call.operands, known] at *
  exact hk

/-- a call over known slots: its arguments by looking -/
theorem wpL_fn (v : Value) {f : FuncId} {xs : List Operand} {ts : Array TypeId} (args : List Value) (ho : o.op = .call { callee := .value (.func f), args := xs.toArray, argTypes := ts }) (ha : xs.map (ev fs) = args) (hk : xs.all (known I) = true) (hg : guardKnown ops o I = true) (hw : wantedL ops fs o = true)
    (hfn : ∀ (args : Array Value) w, (callFunc f args).run P w = .ok (.enter f args) w) (hc : ∀ w, C w → Calls P f args.toArray w fun e w' => e = .returned v ∧ Below w.heap.size w w') (k : wpL P ops C Q ds rest I (setL fs o.dst v)) : wpL P ops C Q ds (o :: rest) I fs :=
  wpL_call v args.toArray (by simp [notSelect, ho]) (all_known ho hk) hg hw (fun w => by rw [enter_of ho _ rfl hfn, ha]) hc k
/-- what is asked at the end -/
def FinL (Q : Act → World → Prop) (ds : List Deferred) : Lx → List Value → World → Prop
  | [], fs, w => Q ⟨fs.toArray, ds⟩ w
  | (d, R) :: I, fs, w => ∀ v, R.holds v w → FinL Q ds I (fs.set d v) w
theorem finL_finQ : ∀ (I : Lx) (fs : List Value) (w : World), FinL Q ds I fs w → FinQ Q I (mkA fs ds) w
  | [], _, _, h => h
  | (d, R) :: I, fs, w, h => fun v hv => by rw [mkA_put]; exact finL_finQ I _ w (h v hv)
theorem wpL_end (hk : ((I.map (·.1)).Nodup && (I.map (·.1)).all (· < fs.length)) = true) (h : ∀ w, C w → FinL Q ds I fs w) : wpL P ops C Q ds [] I fs :=
  wpT_end (by simpa [mkA] using hk) (fun w hw => finL_finQ I fs w (h w hw))
end lists

end
end Go.Own

end
section
namespace Go.Own
open Go.RowKit
section
variable {B : Nat} {w0 w w1 w2 : World} {Ps : List Asn}
theorem St.swap2 {P Q : Asn} (H : St B w0 w (P :: Q :: Ps)) : St B w0 w (Q :: P :: Ps) := H.perm (List.Perm.swap Q P Ps)
end
end Go.Own
namespace Go.Proofs.Ytcbkhgjjbponhaa
open Go.RowKit Go.Own
namespace Byt

section
variable {B : Nat} {w0 : World}
end
end Byt
end Go.Proofs.Ytcbkhgjjbponhaa

end
section
namespace Go.Own
open Go.RowKit
section
variable {B : Nat} {w0 : World} {e : TypeId} {size n cap : Nat}
end

theorem flat_at {α : Type} (f : α → List Value) (c : Nat) : ∀ (L : List α), (∀ a ∈ L, (f a).length = c) → ∀ (k : Nat) (a : α), L[k]? = some a → ∀ j, j < c → (L.flatMap f)[k * c + j]? = (f a)[j]?
  | [], _, k, a, h, _, _ => by simp at h
  | x :: L, hl, 0, a, h, j, hj => by
    have h2 : x = a := by simpa using h
    subst h2
    have hx := hl x (List.mem_cons_self ..)
    rw [Nat.zero_mul, Nat.zero_add, List.flatMap_cons, List.getElem?_append_left (by omega)]
  | x :: L, hl, k + 1, a, h, j, hj => by
    have hx := hl x (List.mem_cons_self ..)
    rw [List.flatMap_cons, List.getElem?_append_right (by rw [hx, Nat.add_mul]; omega), hx, show (k + 1) * c + j - c = k * c + j by rw [Nat.add_mul]; omega]
    exact flat_at f c L (fun y hy => hl y (List.mem_cons_of_mem _ hy)) k a (by simpa using h) j hj
theorem flat_length {α : Type} (f : α → List Value) (c : Nat) : ∀ (L : List α), (∀ a ∈ L, (f a).length = c) → (L.flatMap f).length = L.length * c
  | [], _ => by simp
  | x :: L, hl => by
    rw [List.flatMap_cons, List.length_append, hl x (List.mem_cons_self ..), flat_length f c L (fun y hy => hl y (List.mem_cons_of_mem _ hy)), List.length_cons, Nat.add_mul, Nat.one_mul, Nat.add_comm]
section
variable {P : Program} {B : Nat} {w0 w : World} {Ps : List Asn} {t e : TypeId} {size bytes : Nat}
end
section
variable {P : Program} {t e : TypeId} {size bytes : Nat} {B : Nat} {w0 w : World} {Ps : List Asn}
end
/-- a new variable of many cells -/
theorem wpList_allocZ {P : Program} {ops : Array Oper} {rest : List Oper} {o : Oper} {a : Act} {w : World} {Q : Exit → Act → World → Prop} (hgd : o.guard = none) (ty : TypeId) (ho : o.op = .alloc ty) (z : Array Value) (hz : (P.info? ty).bind (·.zero) = some (.agg z))
    (h : wpList P ops Q rest (a.put o.dst (.pointer (some ⟨w.heap.size, 0, none⟩))) (w.alloc (.cells z ty))) : wpList P ops Q (o :: rest) a w := by
  refine wpList_plain hgd fun K hK => ?_
  obtain ⟨i, hi, hi2⟩ := Option.bind_eq_some_iff.1 hz
  unfold Oper.wp
  simp [execOp, ho, Instr.alloc, zeroValue, typeInfo, hi, hi2, Result.andThen]
  exact hK _ _ h
end Go.Own

end
section
namespace Go.Own
open Go.RowKit

section
variable {P : Program} {ops : Array Oper} {C : World → Prop}

/-- an operation waits for another, by way of others -/
inductive Reach (md : Region.Mode) (ops : Array Oper) : Oper → Nat → Prop
  | one {o : Oper} {e : Edge} {j : Nat} : e ∈ o.after → Region.binds md e = true → e.on = j → Reach md ops o j
  | step {o ok : Oper} {e : Edge} {j : Nat} : e ∈ o.after → Region.binds md e = true → ops[e.on]? = some ok → Reach md ops ok j → Reach md ops o j
theorem Reach.listed {md : Region.Mode} {ops : Array Oper} {listed : Array Bool} (hc : ∀ (j : Nat) (oj : Oper), ops[j]? = some oj → listed.getD j false = true → ∀ e ∈ oj.after, Region.binds md e = true → listed.getD e.on false = true) {o : Oper} {j : Nat} (h : Reach md ops o j) :
    (∀ e ∈ o.after, Region.binds md e = true → listed.getD e.on false = true) → listed.getD j false = true := by
  induction h with
  | one he hb hj => intro ha; rw [← hj]; exact ha _ he hb
  | step he hb hk _ ih => intro ha; exact ih (hc _ _ hk (ha _ he hb))

end
end Go.Own

end
section
namespace Go.Proofs.Ytcbkhgjjbponhaa
open Go.RowKit Go.Own
namespace Tab
open Go.TabM
abbrev ptr (p : Nat) : Value := .pointer (some ⟨p, 0, none⟩)
section
variable {B : Nat} {w0 w : World} {Ps : List Asn} {q : Nat} {v : Value} {t : T}
end
section
variable {B : Nat} {w0 w : World} {Ps : List Asn} {q : Nat} {v : Value} {t : T} {N : Nat}
end
end Tab
end Go.Proofs.Ytcbkhgjjbponhaa

end
section
namespace Go.Proofs.Ytcbkhgjjbponhaa
open Go.RowKit Go.Own

namespace Cod

/-- the many lowest bytes of n, the least significant one first -/
def le (n : Nat) : Nat → List UInt8
  | 0 => []
  | k + 1 => le n k ++ [UInt8.ofNat (n / 2 ^ (8 * k))]
/-- a writer as plain data: its room, what was written, its first error -/
structure WS where
  room : Int
  xs : List UInt8
  err : Int

end Cod
end Go.Proofs.Ytcbkhgjjbponhaa

end
section
namespace Go.Proofs.Ytcbkhgjjbponhaa
open Go.RowKit Go.Own
namespace Cod

/-- a reader as plain data: the bytes that are left, its first error -/
structure RS where
  l : List UInt8
  err : Int

theorem View.take {w : World} {D : Nat → Prop} {ao : Option Addr} {l : List UInt8} (h : View w D ao l) (n : Nat) : View w D ao (l.take n) := by
  rcases h with rfl | ⟨b, o, e, hS, hb, hc⟩
  · exact .inl (by simp)
  · refine .inr ⟨b, o, e, hS, hb, fun j hj => ?_⟩
    rw [List.length_take] at hj
    rw [hc j (by omega)]
    simp [List.getD, show j < n by omega]

theorem View.drop {w : World} {D : Nat → Prop} {b o : Nat} {l : List UInt8} (h : View w D (some ⟨b, o, none⟩) l) (n : Nat) : View w D (some ⟨b, o + n, none⟩) (l.drop n) := by
  rcases h with rfl | ⟨b', o', e, hS, hb, hc⟩
  · exact .inl (by simp)
  · cases e
    refine .inr ⟨b, o + n, rfl, hS, hb, fun j hj => ?_⟩
    rw [List.length_drop] at hj
    have := hc (n + j) (by omega)
    rw [Nat.add_assoc, this]
    simp [List.getD]

end Cod
end Go.Proofs.Ytcbkhgjjbponhaa

end
section
namespace Go.Proofs.Ytcbkhgjjbponhaa
open Go.RowKit Go.Own
namespace Cod

/-- a slice of bytes of one's own -/
def AB (ao : Option Addr) (n cap : Nat) (l : List UInt8) : Asn := ARow 5 1 (.slice ao n cap) n (l.map byteV)

theorem AB.view {w : World} {S : Nat → Prop} {ao : Option Addr} {n cap : Nat} {l : List UInt8} (h : (AB ao n cap l).holds S w) : View w S ao l := Row.view h
theorem AB.len {w : World} {S : Nat → Prop} {ao : Option Addr} {n cap : Nat} {l : List UInt8} (h : (AB ao n cap l).holds S w) : l.length = n ∧ n ≤ cap ∧ cap ≤ maxLen := by
  obtain ⟨ao', cap', hv, h1, h2, _⟩ := Row.form h
  simp only [Value.slice.injEq, true_and] at hv
  obtain ⟨rfl, rfl⟩ := hv
  exact ⟨by have := h.own.1; simpa using this, h1, h2⟩

section
variable {B : Nat} {w0 w : World} {Ps : List Asn} {p : Nat} {s : WS} {r : RS}

end

end Cod
end Go.Proofs.Ytcbkhgjjbponhaa

end
section
namespace Go.Own
open Go.RowKit
/-- a slice that reads as these cells -/
def RdRow (w : World) (v : Value) (n : Nat) (xs : List Value) : Prop := ∃ ao cap, v = .slice ao n cap ∧ (n = 0 ∨ ∃ g, ao = some ⟨g, 0, none⟩ ∧ ∀ j u, xs[j]? = some u → w.cell? ⟨g, j, none⟩ = some u)
theorem cellLater' {W w : World} {a : Addr} {v : Value} (h : W.cell? a = some v) (hb : Below W.heap.size W w) : w.cell? a = some v := by
  have hlt : a.block < W.heap.size := by
    unfold World.cell? at h
    rcases Nat.lt_or_ge a.block W.heap.size with h1 | h1
    · exact h1
    · rw [Array.getElem?_eq_none h1] at h; simp at h
  unfold World.cell? at h ⊢
  rw [hb.block a.block hlt]
  exact h
theorem RdRow.later {W w : World} {v : Value} {n : Nat} {xs : List Value} (h : RdRow W v n xs) (hb : Below W.heap.size W w) : RdRow w v n xs := by
  obtain ⟨ao, cap, rfl, h⟩ := h
  refine ⟨ao, cap, rfl, ?_⟩
  rcases h with h | ⟨g, e, h⟩
  · exact .inl h
  · exact .inr ⟨g, e, fun j u hu => cellLater' (h j u hu) hb⟩
end Go.Own
namespace Go.Proofs.Ytcbkhgjjbponhaa
open Go.RowKit Go.Own
namespace Tab
open Go.TabM
end Tab
end Go.Proofs.Ytcbkhgjjbponhaa

end
section
namespace Go.Own
open Go.RowKit
/-- a slice that reads as these cells, wherever it begins -/
def RdWin (w : World) (v : Value) (n : Nat) (xs : List Value) : Prop := ∃ ao cap, v = .slice ao n cap ∧ (n = 0 ∨ ∃ g o, ao = some ⟨g, o, none⟩ ∧ ∀ j u, xs[j]? = some u → w.cell? ⟨g, o + j, none⟩ = some u)
theorem RdWin.later {W w : World} {v : Value} {n : Nat} {xs : List Value} (h : RdWin W v n xs) (hb : Below W.heap.size W w) : RdWin w v n xs := by
  obtain ⟨ao, cap, e, h⟩ := h
  refine ⟨ao, cap, e, ?_⟩
  rcases h with h | ⟨g, o, e2, hc⟩
  · exact .inl h
  · exact .inr ⟨g, o, e2, fun j u hu => cellLater' (hc j u hu) hb⟩
end Go.Own

end
section
namespace Go.Own
open Go.RowKit
/-- a type of c cells, its zero value -/
structure Boxy (P : Program) (ty : TypeId) (c : Nat) : Prop where
  zero : ∃ z : Array Value, (P.info? ty).bind (·.zero) = some (.agg z) ∧ z.size = c
  size : (P.info? ty).map (·.size) = some c
theorem boxy_of {P : Program} {ty : TypeId} {c : Nat} (z : Array Value) (h : (P.info? ty).bind (·.zero) = some (.agg z)) (hz : z.size = c) (hs : (P.info? ty).map (·.size) = some c) : Boxy P ty c := ⟨⟨z, h, hz⟩, hs⟩
section
variable {P : Program} {B : Nat} {w0 : World} {Ps : List Asn}
/-- var x: its zero value -/
theorem wpList_newZ {ops : Array Oper} {rest : List Oper} {o : Oper} {a : Act} {w : World} {Q : Exit → Act → World → Prop} {ty : TypeId} (z : List Value) (hz : (P.info? ty).bind (·.zero) = some (.agg z.toArray)) (hg : o.guard = none) (ho : o.op = .alloc ty) (H : St B w0 w Ps)
    (h : ∀ b w', St B w0 w' (AVals b ty z :: Ps) → wpList P ops Q rest (a.put o.dst (.pointer (some ⟨b, 0, none⟩))) w') : wpList P ops Q (o :: rest) a w :=
  wpList_allocZ hg ty ho z.toArray hz (h _ _ (H.boxV ty z))
/-- x = value -/
theorem wpList_fill {ops : Array Oper} {rest : List Oper} {o : Oper} {a : Act} {w : World} {Q : Exit → Act → World → Prop} {ty : TypeId} {c b : Nat} (O : Boxy P ty c) (hg : o.guard = none) (x y : Operand) (ho : o.op = .store ty x y) (hd : o.dst = none) (H : St B w0 w Ps) (i : Nat) {vs : List Value} (hi : Ps[i]? = some (AVals b ty vs)) (hv : vs.length = c)
    (cs : List Value) (hx : a.eval x = .pointer (some ⟨b, 0, none⟩)) (hy : a.eval y = .agg cs.toArray) (hc : cs.length = c) (h1 : ∀ u ∈ cs, u.oneCell' = true)
    (h : ∀ w', St B w0 w' (Ps.set i (AVals b ty cs)) → wpList P ops Q rest a w') : wpList P ops Q (o :: rest) a w := by
  have ht : w.there b 0 cs.toArray.size := H.thereV i hi (by rw [List.size_toArray, hc, hv]; exact Nat.le_refl _)
  refine wpList_store_mid hg ty x y ho b 0 cs.toArray hx hy ht (by rw [List.size_toArray, hc]; exact O.size) (all_oneCell_toArray h1) ?_
  have hs := St.setAll i cs 0 w Ps vs H hi (by rw [Nat.zero_add, hc, hv])
  simp only [List.take_zero, List.nil_append] at hs
  rw [hd, List.toList_toArray]
  exact h _ hs
/-- such a variable is loaded -/
theorem St.boxRange {w : World} {b : Nat} {ty : TypeId} {cs : List Value} (H : St B w0 w Ps) (i : Nat) (hi : Ps[i]? = some (AVals b ty cs)) : w.rangeAt b 0 cs := fun j v hv => by rw [Nat.zero_add]; exact (H.cellV i hi j hv).1
end
end Go.Own

end
