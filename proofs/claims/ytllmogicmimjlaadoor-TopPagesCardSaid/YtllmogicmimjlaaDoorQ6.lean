/- Merged: LzM LzR LzP LzT LzV LzU LzK LzL LzN LzQ MatK MatI MatN -/
import Derived.Lib.AppendZerosOnto
import Derived.Laws.CopyRow
import Derived.Lib.Hide
import Derived.Deep.RegionLaw
import Derived.RangeFuncNested
import Derived.RangeFuncBound
import Derived.RangeFuncCalls
import Derived.RangeFuncLeaves
import Derived.RangeFuncBox
import Derived.Shelf.Abstract
import Derived.Shelf.RegionOpen
import Derived.WalkKit
import Derived.OwnWalkIn
import Derived.TacticsInMore
import Derived.LoopNIn
import Derived.LoopIn
import Derived.Lib.SlBytesConst
import Derived.Maps.Own
import Derived.Maps.Views
import Derived.WideKeyArr
import Derived.ArgAppend
import Derived.Test.YtllmogicmimjlaaDoorQ1
import Derived.Test.YtllmogicmimjlaaDoorQ2
import Derived.Test.YtllmogicmimjlaaDoorQ4
import Derived.Test.YtllmogicmimjlaaDoorQ5
set_option linter.unusedVariables false
section
namespace Go.LzM
open Go.MatM

/-- plain bytes, at most 128 at a time -/
def plainF : Nat → Bs → Bs
  | 0, _ => []
  | f + 1, l => if l.length = 0 then [] else UInt8.ofNat (min l.length 128 - 1) :: (l.take 128 ++ plainF f (l.drop 128))
def plain (l : Bs) : Bs := plainF l.length l
theorem plainF_fuel (f : Nat) : ∀ l : Bs, l.length ≤ f → plainF f l = plainF l.length l := by
  induction f using Nat.strongRecOn with
  | _ f ih =>
    intro l hl
    by_cases h0 : l.length = 0
    · have e : plainF l.length l = [] := by rw [h0]; rfl
      rw [e]
      cases f with
      | zero => rfl
      | succ f => simp [plainF, h0]
    · obtain ⟨g, rfl⟩ : ∃ g, f = g + 1 := ⟨f - 1, by omega⟩
      obtain ⟨m, hm⟩ : ∃ m, l.length = m + 1 := ⟨l.length - 1, by omega⟩
      rw [hm]
      unfold plainF
      rw [if_neg h0, if_neg h0, ih g (by omega) (l.drop 128) (by rw [List.length_drop]; omega)]
      congr 2
      rcases Nat.lt_or_ge m (g + 1) with h | h
      · exact (ih m h (l.drop 128) (by rw [List.length_drop]; omega)).symm
      · omega
theorem plain_nil : plain [] = [] := rfl
theorem plain_cons (l : Bs) (h : l.length ≠ 0) : plain l = UInt8.ofNat (min l.length 128 - 1) :: (l.take 128 ++ plain (l.drop 128)) := by
  obtain ⟨m, hm⟩ : ∃ m, l.length = m + 1 := ⟨l.length - 1, by omega⟩
  have e : plain l = plainF (m + 1) l := by unfold plain; rw [hm]
  rw [e]
  unfold plainF
  rw [if_neg h, plainF_fuel m (l.drop 128) (by rw [List.length_drop]; omega)]
  rfl
/-- n bytes more, each the one d before -/
def copyN (out : Bs) (d : Nat) : Nat → Bs
  | 0 => out
  | n + 1 => copyN (out ++ [out.getD (out.length - d) 0]) d n
/-- item by item; 0 is OK, 60 no packed data, 4 too many -/
def decF : Nat → Nat → Bs → Bs → Bs × Nat
  | 0, _, _, out => (out, 0)
  | f + 1, most, rest, out => match rest with
    | [] => (out, 0)
    | c :: r => if c.toNat < 128 then
        (if r.length < c.toNat + 1 then ([], 60) else if most < out.length + (c.toNat + 1) then ([], 4) else decF f most (r.drop (c.toNat + 1)) (out ++ r.take (c.toNat + 1)))
      else match r with
        | [] => ([], 60)
        | d :: r2 => if out.length < d.toNat + 1 then ([], 60) else if most < out.length + (c.toNat - 125) then ([], 4) else decF f most r2 (copyN out (d.toNat + 1) (c.toNat - 125))
def dec (most : Nat) (rest out : Bs) : Bs × Nat := decF rest.length most rest out
theorem decF_fuel (f : Nat) : ∀ (most : Nat) (rest out : Bs), rest.length ≤ f → decF f most rest out = decF rest.length most rest out := by
  induction f using Nat.strongRecOn with
  | _ f ih =>
    intro most rest out hl
    match rest with
    | [] => cases f <;> rfl
    | c :: r =>
      obtain ⟨g, rfl⟩ : ∃ g, f = g + 1 := ⟨f - 1, by simp at hl; omega⟩
      have hr : r.length ≤ g := by simpa using hl
      have key : ∀ (r2 out2 : Bs), r2.length ≤ r.length → decF g most r2 out2 = decF r.length most r2 out2 := by
        intro r2 out2 h2
        rw [ih g (by omega) most r2 out2 (by omega)]
        rcases Nat.lt_or_ge r.length (g + 1) with h | h
        · exact (ih r.length h most r2 out2 h2).symm
        · omega
      show decF (g + 1) most (c :: r) out = decF (r.length + 1) most (c :: r) out
      unfold decF
      simp only
      rw [key (r.drop (c.toNat + 1)) _ (by rw [List.length_drop]; omega)]
      match r, key with
      | [], _ => rfl
      | d :: r2, key => simp only; rw [key r2 _ (by simp)]
theorem dec_nil (most : Nat) (out : Bs) : dec most [] out = (out, 0) := rfl
theorem dec_cons (most : Nat) (c : UInt8) (r out : Bs) : dec most (c :: r) out = if c.toNat < 128 then
        (if r.length < c.toNat + 1 then ([], 60) else if most < out.length + (c.toNat + 1) then ([], 4) else dec most (r.drop (c.toNat + 1)) (out ++ r.take (c.toNat + 1)))
      else match r with
        | [] => ([], 60)
        | d :: r2 => if out.length < d.toNat + 1 then ([], 60) else if most < out.length + (c.toNat - 125) then ([], 4) else dec most r2 (copyN out (d.toNat + 1) (c.toNat - 125)) := by
  show decF (r.length + 1) most (c :: r) out = _
  unfold decF
  simp only
  rw [decF_fuel r.length most (r.drop (c.toNat + 1)) _ (by rw [List.length_drop]; omega)]
  match r with
  | [] => rfl
  | d :: r2 =>
    simp only
    rw [decF_fuel (d :: r2).length most r2 _ (by simp)]
    rfl
theorem ofNat_toNat (n : Nat) (h : n < 256) : (UInt8.ofNat n).toNat = n := by simp; omega
theorem dec_lits (most : Nat) (l rest out : Bs) (h0 : l.length ≠ 0) (h : l.length ≤ 128) : dec most (UInt8.ofNat (l.length - 1) :: (l ++ rest)) out = if most < out.length + l.length then ([], 4) else dec most rest (out ++ l) := by
  rw [dec_cons, ofNat_toNat _ (by omega), if_pos (by omega), if_neg (by rw [List.length_append]; omega), show l.length - 1 + 1 = l.length by omega, List.drop_left, List.take_left]
theorem dec_plain (most : Nat) (rest : Bs) (n : Nat) : ∀ (l out : Bs), l.length ≤ n → out.length ≤ most → dec most (plain l ++ rest) out = if most < out.length + l.length then ([], 4) else dec most rest (out ++ l) := by
  induction n using Nat.strongRecOn with
  | _ n ih =>
    intro l out hl ho
    by_cases h0 : l.length = 0
    · rw [List.eq_nil_of_length_eq_zero h0, plain_nil, if_neg (by simpa using ho)]
      simp
    · rw [plain_cons l h0]
      have e : min l.length 128 - 1 = (l.take 128).length - 1 := by rw [List.length_take]; omega
      rw [e, List.cons_append, List.append_assoc, dec_lits most (l.take 128) _ out (by rw [List.length_take]; omega) (by rw [List.length_take]; omega)]
      by_cases hm : most < out.length + (l.take 128).length
      · rw [if_pos hm, if_pos (by rw [List.length_take] at hm; omega)]
      · rw [if_neg hm]
        by_cases hs : l.length ≤ 128
        · rw [List.drop_of_length_le hs, plain_nil, List.take_of_length_le hs] at *
          rw [List.nil_append, if_neg hm]
        · have h1 : (l.drop 128).length < n := by rw [List.length_drop]; omega
          rw [ih _ h1 (l.drop 128) (out ++ l.take 128) (Nat.le_refl _) (by rw [List.length_append]; omega)]
          have e2 : (out ++ l.take 128).length + (l.drop 128).length = out.length + l.length := by rw [List.length_append, List.length_take, List.length_drop]; omega
          rw [e2, List.append_assoc, List.take_append_drop]
theorem copyN_take (b : Bs) (d : Nat) (hd : 1 ≤ d) : ∀ (n i : Nat), d ≤ i → i + n ≤ b.length → (∀ k, k < n → by' b (i + k) = by' b (i + k - d)) → copyN (b.take i) d n = b.take (i + n) := by
  intro n
  induction n with
  | zero => intro i _ _ _; rfl
  | succ n ih =>
    intro i hdi hl h
    have hil : i < b.length := by omega
    have e0 : (b.take i).length = i := by rw [List.length_take]; omega
    have e : b.take i ++ [(b.take i).getD ((b.take i).length - d) 0] = b.take (i + 1) := by
      rw [List.take_succ_eq_append_getElem hil, e0]
      congr 2
      have h1 := h 0 (by omega)
      unfold by' at h1
      rw [Nat.add_zero] at h1
      have h2 : (b.take i).getD (i - d) 0 = b.getD (i - d) 0 := by
        rw [List.getD_eq_getElem?_getD, List.getD_eq_getElem?_getD, List.getElem?_take_of_lt (by omega)]
      rw [h2, ← h1]
      simp [hil]
    show copyN (b.take i ++ [(b.take i).getD ((b.take i).length - d) 0]) d n = _
    rw [e, ih (i + 1) (by omega) (by omega) (fun k hk => by
      have := h (k + 1) (by omega)
      rw [show i + (k + 1) = i + 1 + k by omega] at this
      exact this), show i + 1 + n = i + (n + 1) by omega]

/-- the encoding from position i on, whose plain bytes from 'fr' on are not yet written -/
def encF : Nat → Bs → Nat → Nat → Bs
  | 0, b, fr, _ => plain (b.drop fr)
  | f + 1, b, fr, i => if i < b.length then
      (if (longest b i).2 = 0 ∨ (longest b i).2 < (longest b (i + 1)).2 then encF f b fr (i + 1)
       else plain ((b.take i).drop fr) ++ (UInt8.ofNat (128 + (longest b i).2 - 3) :: UInt8.ofNat ((longest b i).1 - 1) :: encF f b (i + (longest b i).2) (i + (longest b i).2)))
    else plain (b.drop fr)
def enc (b : Bs) : Bs := encF b.length b 0 0
theorem encF_fuel (f : Nat) : ∀ (b : Bs) (fr i : Nat), b.length - i ≤ f → encF f b fr i = encF (b.length - i) b fr i := by
  induction f using Nat.strongRecOn with
  | _ f ih =>
    intro b fr i hl
    by_cases hi : i < b.length
    · obtain ⟨g, rfl⟩ : ∃ g, f = g + 1 := ⟨f - 1, by omega⟩
      obtain ⟨m, hm⟩ : ∃ m, b.length - i = m + 1 := ⟨b.length - i - 1, by omega⟩
      rw [hm]
      have key : ∀ fr' i', i + 1 ≤ i' → encF g b fr' i' = encF m b fr' i' := by
        intro fr' i' h'
        rw [ih g (by omega) b fr' i' (by omega)]
        rcases Nat.lt_or_ge m (g + 1) with h | h
        · exact (ih m h b fr' i' (by omega)).symm
        · omega
      unfold encF
      rw [if_pos hi, if_pos hi, key fr (i + 1) (Nat.le_refl _)]
      by_cases hc : (longest b i).2 = 0 ∨ (longest b i).2 < (longest b (i + 1)).2
      · rw [if_pos hc, if_pos hc]
      · rw [if_neg hc, if_neg hc, key _ (i + (longest b i).2) (by omega)]
    · have e : b.length - i = 0 := by omega
      rw [e]
      cases f with
      | zero => rfl
      | succ f => unfold encF; rw [if_neg hi]
/-- a step of the encoding -/
theorem enc_end (b : Bs) (fr i : Nat) (hi : ¬ i < b.length) : encF (b.length - i) b fr i = plain (b.drop fr) := by
  rw [show b.length - i = 0 by omega]; rfl
theorem enc_lit (b : Bs) (fr i : Nat) (hi : i < b.length) (h : (longest b i).2 = 0 ∨ (longest b i).2 < (longest b (i + 1)).2) : encF (b.length - i) b fr i = encF (b.length - (i + 1)) b fr (i + 1) := by
  obtain ⟨m, hm⟩ : ∃ m, b.length - i = m + 1 := ⟨b.length - i - 1, by omega⟩
  rw [hm, show b.length - (i + 1) = m by omega]
  conv => lhs; unfold encF
  rw [if_pos hi, if_pos h]
theorem enc_match (b : Bs) (fr i : Nat) (hi : i < b.length) (h : ¬ ((longest b i).2 = 0 ∨ (longest b i).2 < (longest b (i + 1)).2)) :
    encF (b.length - i) b fr i = plain ((b.take i).drop fr) ++ (UInt8.ofNat (128 + (longest b i).2 - 3) :: UInt8.ofNat ((longest b i).1 - 1) :: encF (b.length - (i + (longest b i).2)) b (i + (longest b i).2) (i + (longest b i).2)) := by
  obtain ⟨m, hm⟩ : ∃ m, b.length - i = m + 1 := ⟨b.length - i - 1, by omega⟩
  rw [hm]
  conv => lhs; unfold encF
  rw [if_pos hi, if_neg h, encF_fuel m b _ (i + (longest b i).2) (by omega)]

/-- what is packed comes back -/
theorem dec_enc (b : Bs) (most : Nat) : ∀ (k fr i : Nat), b.length - i ≤ k → fr ≤ i → i ≤ b.length → fr ≤ most → dec most (encF (b.length - i) b fr i) (b.take fr) = if most < b.length then ([], 4) else (b, 0) := by
  intro k
  induction k using Nat.strongRecOn with
  | _ k ih =>
    intro fr i hk hfr hib hm
    have e0 : (b.take fr).length = fr := by rw [List.length_take]; omega
    by_cases hi : i < b.length
    · by_cases hc : (longest b i).2 = 0 ∨ (longest b i).2 < (longest b (i + 1)).2
      · rw [enc_lit b fr i hi hc]
        exact ih (b.length - (i + 1)) (by omega) fr (i + 1) (Nat.le_refl _) (by omega) (by omega) hm
      · obtain ⟨d, n, hdn⟩ : ∃ d n, longest b i = (d, n) := ⟨_, _, rfl⟩
        rw [enc_match b fr i hi hc, hdn]
        rw [hdn] at hc
        simp only at hc ⊢
        obtain ⟨a1, a2, a3, a4, a5, a6, a7, _⟩ := longest_runs b i d n hdn (by omega)
        have el : ((b.take i).drop fr).length = i - fr := by rw [List.length_drop, List.length_take]; omega
        have et : b.take fr ++ (b.take i).drop fr = b.take i := by
          have h1 : b.take fr = (b.take i).take fr := by rw [List.take_take, Nat.min_eq_left hfr]
          rw [h1, List.take_append_drop]
        rw [dec_plain most _ _ ((b.take i).drop fr) (b.take fr) (Nat.le_refl _) (by omega), e0, el, et, show fr + (i - fr) = i by omega]
        by_cases hmi : most < i
        · rw [if_pos hmi, if_pos (by omega)]
        · rw [if_neg hmi, dec_cons, ofNat_toNat _ (by omega), if_neg (by omega)]
          simp only
          have e1 : (b.take i).length = i := by rw [List.length_take]; omega
          rw [ofNat_toNat _ (by omega), e1, if_neg (by omega), show d - 1 + 1 = d by omega, show 128 + n - 3 - 125 = n by omega]
          by_cases hmn : most < i + n
          · rw [if_pos hmn, if_pos (by omega)]
          · rw [if_neg hmn, copyN_take b d a1 n i a3 a6 a7]
            exact ih (b.length - (i + n)) (by omega) (i + n) (i + n) (Nat.le_refl _) (Nat.le_refl _) a6 (by omega)
    · rw [enc_end b fr i hi]
      have h := dec_plain most [] _ (b.drop fr) (b.take fr) (Nat.le_refl _) (by omega)
      rw [List.append_nil] at h
      rw [h, e0, List.length_drop, List.take_append_drop, show fr + (b.length - fr) = b.length by omega, dec_nil]

/-- P6.1 -/
def pack (b : Bs) : Bs := if (enc b).length < b.length then 1 :: enc b else 0 :: b
/-- P6.2 -/
def unpack (p : Bs) (most : Nat) : Bs × Nat := match p with
  | [] => ([], 60)
  | c :: r => if 1 < c.toNat then ([], 60) else if c.toNat = 0 then (if most < r.length then ([], 4) else (r, 0)) else dec most r []
theorem unpack_one (r : Bs) (most : Nat) : unpack (1 :: r) most = dec most r [] := by
  unfold unpack
  simp only
  rw [if_neg (by decide), if_neg (by decide)]
theorem unpack_zero (r : Bs) (most : Nat) : unpack (0 :: r) most = if most < r.length then ([], 4) else (r, 0) := by
  unfold unpack
  simp only
  rw [if_neg (by decide), if_pos (by decide)]
/-- P6.3 -/
theorem unpack_pack (b : Bs) (most : Nat) : unpack (pack b) most = if most < b.length then ([], 4) else (b, 0) := by
  unfold pack
  split
  · rw [unpack_one]
    exact dec_enc b most _ 0 0 (Nat.le_refl _) (Nat.le_refl _) (Nat.zero_le _) (Nat.zero_le _)
  · rw [unpack_zero]
theorem pack_len (b : Bs) : (pack b).length ≤ b.length + 1 := by
  unfold pack; split <;> simp <;> omega
/-! ### P6.4 -/
theorem longest_le (b : Bs) (i : Nat) : (longest b i).2 = 0 ∨ 3 ≤ (longest b i).2 ∧ i + (longest b i).2 ≤ b.length := by
  obtain ⟨d, n, h⟩ : ∃ d n, longest b i = (d, n) := ⟨_, _, rfl⟩
  rw [h]
  by_cases h0 : n = 0
  · exact .inl h0
  · have := longest_runs b i d n h (by omega)
    exact .inr ⟨this.2.2.2.1, this.2.2.2.2.2.1⟩
/-- LzSteps -/
theorem copyN_len (d : Nat) : ∀ (n : Nat) (out : Bs), (copyN out d n).length = out.length + n := by
  intro n
  induction n with
  | zero => intro out; rfl
  | succ n ih =>
    intro out
    show (copyN (out ++ [out.getD (out.length - d) 0]) d n).length = _
    rw [ih, List.length_append, List.length_cons, List.length_nil]; omega
theorem copyN_pre (d : Nat) : ∀ (n : Nat) (out : Bs) (k : Nat), k < out.length → (copyN out d n).getD k 0 = out.getD k 0 := by
  intro n
  induction n with
  | zero => intro out k _; rfl
  | succ n ih =>
    intro out k hk
    show (copyN (out ++ [out.getD (out.length - d) 0]) d n).getD k 0 = _
    rw [ih _ k (by rw [List.length_append]; omega), List.getD_eq_getElem?_getD, List.getD_eq_getElem?_getD, List.getElem?_append_left hk]
    rw [List.getD_eq_getElem?_getD]
theorem copyN_at (d : Nat) (hd : 1 ≤ d) : ∀ (n : Nat) (out : Bs), d ≤ out.length → ∀ k, out.length ≤ k → k < out.length + n → (copyN out d n).getD k 0 = (copyN out d n).getD (k - d) 0 := by
  intro n
  induction n with
  | zero => intro out _ k h1 h2; omega
  | succ n ih =>
    intro out hdl k h1 h2
    have el : (out ++ [out.getD (out.length - d) 0]).length = out.length + 1 := by rw [List.length_append]; rfl
    show (copyN (out ++ [out.getD (out.length - d) 0]) d n).getD k 0 = (copyN (out ++ [out.getD (out.length - d) 0]) d n).getD (k - d) 0
    by_cases hk : k = out.length
    · subst hk
      rw [copyN_pre d n _ out.length (by rw [el]; omega), copyN_pre d n _ (out.length - d) (by rw [el]; omega)]
      rw [List.getD_eq_getElem?_getD, List.getElem?_append_right (Nat.le_refl _), List.getD_eq_getElem?_getD, List.getD_eq_getElem?_getD, List.getElem?_append_left (by omega)]
      simp
    · exact ih _ (by rw [el]; omega) k (by rw [el]; omega) (by rw [el]; omega)
theorem plain_len2 : ∀ (n : Nat) (l : Bs), l.length ≤ n → (plain l).length ≤ 2 * l.length
  | 0, l, h => by rw [List.eq_nil_of_length_eq_zero (show l.length = 0 by omega)]; simp [plain_nil]
  | n + 1, l, h => by
    by_cases h0 : l.length = 0
    · rw [List.eq_nil_of_length_eq_zero h0]; simp [plain_nil]
    · rw [plain_cons l h0]
      have := plain_len2 n (l.drop 128) (by rw [List.length_drop]; omega)
      rw [List.length_drop] at this
      simp only [List.length_cons, List.length_append, List.length_take]
      omega
theorem longest_out (b : Bs) (i : Nat) (h : b.length ≤ i) : longest b i = (0, 0) := by
  have e : dmax b i = 0 := by unfold dmax; rw [if_neg (by omega)]
  unfold longest
  rw [e]
  rfl
theorem encF_len (b : Bs) : ∀ (k fr i : Nat), b.length - i ≤ k → fr ≤ i → i ≤ b.length → (encF (b.length - i) b fr i).length ≤ 2 * (b.length - fr) := by
  intro k
  induction k using Nat.strongRecOn with
  | _ k ih =>
    intro fr i hk hfr hib
    by_cases hi : i < b.length
    · by_cases hc : (longest b i).2 = 0 ∨ (longest b i).2 < (longest b (i + 1)).2
      · rw [enc_lit b fr i hi hc]
        exact ih (b.length - (i + 1)) (by omega) fr (i + 1) (Nat.le_refl _) (by omega) (by omega)
      · rw [enc_match b fr i hi hc]
        have h3 := longest_le b i
        have h1 := plain_len2 _ ((b.take i).drop fr) (Nat.le_refl _)
        have h2 := ih (b.length - (i + (longest b i).2)) (by omega) (i + (longest b i).2) (i + (longest b i).2) (Nat.le_refl _) (Nat.le_refl _) (by omega)
        rw [List.length_drop, List.length_take] at h1
        simp only [List.length_append, List.length_cons]
        omega
    · rw [enc_end b fr i hi]
      have h1 := plain_len2 _ (b.drop fr) (Nat.le_refl _)
      rw [List.length_drop] at h1
      exact h1
theorem enc_len (b : Bs) : (enc b).length ≤ 2 * b.length := encF_len b b.length 0 0 (Nat.le_refl _) (Nat.le_refl _) (Nat.zero_le _)
/-- what a head byte and what follows make of it -/
theorem dec_at (most : Nat) (p out : Bs) (i : Nat) (h : i < p.length) : dec most (p.drop i) out = dec most (p.getD i 0 :: p.drop (i + 1)) out := by
  rw [List.drop_eq_getElem_cons h]
  simp [List.getD, h]
theorem dec_lit_long (most : Nat) (p out : Bs) (i : Nat) (h : i < p.length) (c : UInt8) (hc : p.getD i 0 = c) (h1 : c.toNat < 128) (h2 : p.length - (i + 1) < c.toNat + 1) : dec most (p.drop i) out = ([], 60) := by
  rw [dec_at most p out i h, hc, dec_cons, if_pos h1, if_pos (by rw [List.length_drop]; exact h2)]
theorem dec_lit_most (most : Nat) (p out : Bs) (i : Nat) (h : i < p.length) (c : UInt8) (hc : p.getD i 0 = c) (h1 : c.toNat < 128) (h2 : ¬ p.length - (i + 1) < c.toNat + 1) (h3 : most < out.length + (c.toNat + 1)) : dec most (p.drop i) out = ([], 4) := by
  rw [dec_at most p out i h, hc, dec_cons, if_pos h1, if_neg (by rw [List.length_drop]; exact h2), if_pos h3]
theorem dec_lit_ok (most : Nat) (p out : Bs) (i : Nat) (h : i < p.length) (c : UInt8) (hc : p.getD i 0 = c) (h1 : c.toNat < 128) (h2 : ¬ p.length - (i + 1) < c.toNat + 1) (h3 : ¬ most < out.length + (c.toNat + 1)) :
    dec most (p.drop i) out = dec most (p.drop (i + 1 + (c.toNat + 1))) (out ++ (p.take (i + 1 + (c.toNat + 1))).drop (i + 1)) := by
  rw [dec_at most p out i h, hc, dec_cons, if_pos h1, if_neg (by rw [List.length_drop]; exact h2), if_neg h3, List.drop_drop, List.drop_take]
  rw [show i + 1 + (c.toNat + 1) - (i + 1) = c.toNat + 1 by omega]
theorem dec_ref_end (most : Nat) (p out : Bs) (i : Nat) (h : i + 1 = p.length) (c : UInt8) (hc : p.getD i 0 = c) (h1 : ¬ c.toNat < 128) : dec most (p.drop i) out = ([], 60) := by
  rw [dec_at most p out i (by omega), hc, dec_cons, if_neg h1, List.drop_of_length_le (by omega)]
theorem dec_ref (most : Nat) (p out : Bs) (i : Nat) (h : i + 1 < p.length) (c d : UInt8) (hc : p.getD i 0 = c) (hd : p.getD (i + 1) 0 = d) (h1 : ¬ c.toNat < 128) :
    dec most (p.drop i) out = if out.length < d.toNat + 1 then ([], 60) else if most < out.length + (c.toNat - 125) then ([], 4) else dec most (p.drop (i + 2)) (copyN out (d.toNat + 1) (c.toNat - 125)) := by
  rw [dec_at most p out i (by omega), hc, dec_cons, if_neg h1]
  rw [List.drop_eq_getElem_cons h]
  have e : p[i + 1] = d := by rw [← hd]; simp [List.getD, h]
  rw [e]
end Go.LzM

end
section
namespace Go.Proofs.YtllmogicmimjlaaDoor
open Go.RowKit Go.Own
namespace Lz
open Go.MatM Go.LzM Byt

/-- an answer that reads as these bytes -/
def Reads (l : Bs) (w : World) (v : Value) (w' : World) : Prop := ∃ ao c, v = .slice ao l.length c ∧ Given w' ao l.length c l ∧ Below w.heap.size w w'

end Lz
end Go.Proofs.YtllmogicmimjlaaDoor

end
section
namespace Go.Proofs.YtllmogicmimjlaaDoor
open Go.RowKit Go.Own
namespace Byt

theorem zeroBytes (n : Nat) : (Builtin.zeroCells (Value.int .u8 0).cells n).toList = (List.replicate n (0 : UInt8)).map byteV := by
  unfold Builtin.zeroCells
  apply List.ext_getElem?
  intro i
  by_cases hi : i < n
  · simp [hi, Value.cells, byteV, Nat.mod_one]
  · simp [hi, Value.cells]
theorem zeroBytes' (n : Nat) : Builtin.zeroCells (Value.int .u8 0).cells n = ((List.replicate n (0 : UInt8)).map byteV).toArray := by
  rw [← zeroBytes]
theorem int_under : Tryd.prog.underlying 3 = some (.int .i64) := Tryd.underlying3

section
variable {B : Nat} {w0 w : World} {Ps : List Asn} {ao : Option Addr} {n cap : Nat} {l : List UInt8}
/-- append(x, make([]byte, m)...) onto bytes of one's own -/
theorem ab_append_zeros (H : St B w0 w Ps) (i : Nat) (hi : Ps[i]? = some (AB ao n cap l)) (ty : TypeId) (m : Nat) (b1 : n + m ≤ 1000000000) :
    ∃ ao' cap' w', (Builtin.append_ #[22, 3] ty #[.slice ao n cap, .int .i64 (m : Int)]).run Tryd.prog w = .ok (.slice ao' (n + m) cap') w' ∧ St B w0 w' (Ps.set i (AB ao' (n + m) cap' (l ++ List.replicate m 0))) := by
  obtain ⟨i0, hi0, hz0, hz1, hz2⟩ := info_parts infoU8
  obtain ⟨S, hS, _, put⟩ := H.at i hi
  have hlen := AB.len hS
  have hw : IntKind.i64.wrap (m : Int) = m := by rw [IntKind.wrap_i64]; omega
  have hneg : ¬ ((m : Int) < 0) := by omega
  have h48i : ¬ (281474976710656 < (m : Int)) := by omega
  by_cases hroom : n + m ≤ cap
  · by_cases hm : m = 0
    · subst hm
      refine ⟨ao, cap, w, ?_, by simpa using put S w (AB ao n cap l) hS (Step.refl S w)⟩
      have hroom' : n ≤ cap := hroom
      have hw0 : IntKind.i64.wrap 0 = 0 := by decide
      cases ao with
      | none => simp [Builtin.append_, run_underlying Tryd.underlying22, run_underlying int_under, sizeOf, typeInfo, hi0, asInt, asIntOf, hw0, hz2, hroom']
      | some a => simp [Builtin.append_, run_underlying Tryd.underlying22, run_underlying int_under, sizeOf, typeInfo, hi0, asInt, asIntOf, hw0, hz2, hroom', storeCells]
    · obtain ⟨hown, hset⟩ := hS
      rcases hown.2 with ⟨hv, _⟩ | ⟨g, cap', cur, hv, hbg, hg, hnc, hcm, hcs, htake⟩
      · cases hv; omega
      · cases hv
        simp only [Nat.mul_one] at hcs htake
        have hzc := zeroBytes' m
        have hl2 : ((List.replicate m (0 : UInt8)).map byteV).length = m := by simp
        have hst := run_storeCells_at (P := Tryd.prog) g n 5 ((List.replicate m (0 : UInt8)).map byteV) 0 cur w hg (by rw [hl2, hcs]; omega) (byteV_one _)
        have hadd : (⟨g, 0, none⟩ : Addr).add n = ⟨g, n, none⟩ := by rw [add_of, Nat.zero_add]
        have hmz : ¬ m * i0.size = 0 := by rw [hz1]; omega
        refine ⟨some ⟨g, 0, none⟩, cap, w.setRow g (cur.toList.take (n + 0) ++ (List.replicate m (0 : UInt8)).map byteV ++ cur.toList.drop (n + 0 + ((List.replicate m (0 : UInt8)).map byteV).length)).toArray, ?_, ?_⟩
        · simp [Builtin.append_, run_underlying Tryd.underlying22, run_underlying int_under, sizeOf, typeInfo, zeroValue, hi0, hz0, asInt, asIntOf, hw, hneg, hz1, hz2, h48i, hroom, hm, hadd]
          rw [hzc]
          rw [hl2] at hst
          simp only [hst]
          simp
        · refine put S _ (AB (some ⟨g, 0, none⟩) (n + m) cap (l ++ List.replicate m 0)) ⟨⟨by simp [hlen.1], .inr ⟨g, cap, _, rfl, hbg, setRow_heap w g cur _ _ _ hg, hroom, hcm, ?_, ?_⟩⟩, fun k => by rw [hset k]; simp [Value.ownBlock]⟩ ⟨rfl, rfl, rfl, by simp, fun k hk hT => setRow_other w g k _ (fun e => hT ((hset k).2 (by simp [Value.ownBlock, e]))), fun k hk => .inl hk⟩
          · simp only [List.size_toArray, List.length_append, List.length_take, List.length_drop, Array.length_toList, hl2]
            omega
          · rw [List.map_append, Nat.add_zero, htake, Nat.mul_one]
            have e : n + m = (l.map byteV ++ (List.replicate m (0 : UInt8)).map byteV).length := by simp [hlen.1]
            rw [e]
            exact List.take_left
  · have hold : (Builtin.firstCells i0.size n (.slice ao n cap)).run Tryd.prog w.drew = .ok (l.map byteV).toArray w.drew := by
      cases ao with
      | none =>
        obtain ⟨h0, _⟩ := hlen.2.2.2 rfl
        subst h0
        rw [List.eq_nil_of_length_eq_zero hlen.1]
        exact run_firstCells_none w.drew i0.size 0 0 cap
      | some a => exact run_firstCells_some w.drew i0.size n a n cap (l.map byteV) (by rw [List.length_map, hlen.1, hz1, Nat.mul_one]) (by
          have h := vcells (AB.view hS) a rfl
          simpa using h)
    have hfit := growslice_fits (need := n + m) (old := cap) (bytes := i0.bytes) (by omega) (by rw [hz2]; omega)
    have hr := Lib.run_append_grow_zeros (P := Tryd.prog) w 22 3 ty 5 i0 (.int .u8 0) .i64 .i64 Tryd.underlying22 int_under hi0 hz0 ao n cap (l.map byteV) hold m (by omega) (by omega) (by omega) (by omega) (by rw [hz2]; omega) hfit
    have hge := grownCap_ge w (n + m) cap 5
    have hcm : grownCap w (n + m) cap 5 ≤ maxLen := grownCap_le_maxLen w (n + m) cap _ (by unfold maxLen; omega)
    refine ⟨_, _, _, hr, put (fun k => k = w.heap.size) _ (AB (some ⟨w.heap.size, 0, none⟩) (n + m) (grownCap w (n + m) cap 5) (l ++ List.replicate m 0)) ⟨⟨by simp [hlen.1], .inr ⟨w.heap.size, _, _, rfl, Nat.zero_le _, heap_alloc_new w.drew _, hge, hcm, ?_, ?_⟩⟩, fun k => by simp [Value.ownBlock, eq_comm]⟩ ⟨rfl, rfl, rfl, by simp, fun k hk _ => heap_alloc_old w.drew _ hk, fun k hk => .inr (Nat.le_of_eq hk.symm)⟩⟩
    · rw [zeroBytes', zeroBytes']
      simp [hlen.1]
      omega
    · rw [zeroBytes', zeroBytes']
      simp only [Array.toList_append, Nat.mul_one, List.map_append]
      have e : n + m = (l.map byteV ++ (List.replicate m (0 : UInt8)).map byteV).length := by simp [hlen.1]
      rw [e]
      exact List.take_left
theorem wpList_ab_append_zeros {ops : Array Oper} {rest : List Oper} {o : Oper} {a : Act} {Q : Exit → Act → World → Prop} (hgd : o.guard = none) (s x : Operand)
    (ho : o.op = .call { callee := .builtin .append, args := #[s, x], argTypes := #[22, 3] }) (H : St B w0 w Ps) (i : Nat) (hi : Ps[i]? = some (AB ao n cap l)) (hs : a.eval s = .slice ao n cap)
    (m : Nat) (hx : a.eval x = .int .i64 (m : Int)) (b1 : n + m ≤ 1000000000) (q : Nat) (hq : n + m = q)
    (h : ∀ ao' cap' w', St B w0 w' (Ps.set i (AB ao' q cap' (l ++ List.replicate m 0))) → wpList Tryd.prog ops Q rest (a.put o.dst (.slice ao' q cap')) w') : wpList Tryd.prog ops Q (o :: rest) a w := by
  subst hq
  obtain ⟨ao', cap', w', hrun, h1⟩ := ab_append_zeros H i hi o.type m b1
  exact Lib.wpList_append_run w hgd s x _ _ ho _ _ hs hx _ _ hrun (h ao' cap' w' h1)

/-- copy(x[k:], ..) inside bytes of one's own, as one step of a region that draws: what comes is not longer than what is behind k -/
theorem step_ab_copy {ops : Array Oper} {o : Oper} {a : Act} {K : Act → World → Prop} {Q : Exit → Act → World → Prop} {E : Prop} (hgd : o.guard = none) (d s : Operand)
    (ho : o.op = .call { callee := .builtin .copy, args := #[d, s], argTypes := #[22, 22] }) {g : Nat} (H : St B w0 w Ps) (i : Nat) (hi : Ps[i]? = some (AB (some ⟨g, 0, none⟩) n cap l)) (k dn dc : Nat) (hd : a.eval d = .slice (some ⟨g, k, none⟩) dn dc) (hk : k + dn ≤ n)
    (bo : Addr) (sn sc : Nat) (news : List UInt8) (hx : a.eval s = .slice (some bo) sn sc) (hl : news.length = min sn dn)
    (hc : ∀ j u, (news.map byteV)[j]? = some u → w.cell? (bo.add j) = some u)
    (h : ∀ w', St B w0 w' (Ps.set i (AB (some ⟨g, 0, none⟩) n cap (l.take k ++ news ++ l.drop (k + news.length)))) → K (a.put o.dst (goInt news.length)) w') :
    if Region.wanted o (yielded ops a.tmps) = true then Oper.wp Tryd.prog o a w K Q else E := by
  have hw : Region.wanted o (yielded ops a.tmps) = true := by simp [Region.wanted, hgd]
  rw [if_pos hw]
  have hset := ab_setCells i news k w Ps l H hi (by omega)
  have hcells : ∀ j, j < (news.map byteV).length → (w.cell? ⟨g, k + j, none⟩).isSome = true ∧ w.frozen? ⟨g, k + j, none⟩ = false := by
    intro j hj
    rw [List.length_map] at hj
    obtain ⟨g', hg', h1, h2, _⟩ := ab_byte H i hi (k + j) (by omega)
    cases hg'
    exact ⟨by rw [h1]; rfl, h2⟩
  have hrun := run_copy_cells (P := Tryd.prog) w 22 22 o.type 5 g k dn dc bo sn sc (news.map byteV) Tryd.underlying22 info8 (by rw [List.length_map, hl]) hc (fun j hj => (hcells j hj).1) (fun j hj => (hcells j hj).2) (byteV_one _)
  rw [List.length_map] at hrun
  unfold Oper.wp
  simp [execOp, ho, resolve, invoke, builtin, hd, hx, hrun, Result.andThen]
  exact h _ hset
end
end Byt
end Go.Proofs.YtllmogicmimjlaaDoor

end
section
namespace Go.LzM
open Go.MatM
theorem ext_getD {a b : Bs} (hl : a.length = b.length) (h : ∀ i, i < a.length → a.getD i 0 = b.getD i 0) : a = b := by
  apply List.ext_getElem hl
  intro i h1 h2
  have := h i h1
  simpa [List.getD, h1, h2] using this
theorem copyN_add (d : Nat) : ∀ (a b : Nat) (out : Bs), copyN out d (a + b) = copyN (copyN out d a) d b
  | 0, b, out => by rw [Nat.zero_add]; rfl
  | a + 1, b, out => by
    rw [show a + 1 + b = (a + b) + 1 by omega]
    exact copyN_add d a b _
theorem copyN_per (d : Nat) (hd : 1 ≤ d) (n : Nat) (out : Bs) (hdl : d ≤ out.length) : ∀ (q p : Nat), out.length ≤ p + d → p + q * d < out.length + n → (copyN out d n).getD (p + q * d) 0 = (copyN out d n).getD p 0
  | 0, p, _, _ => by rw [Nat.zero_mul, Nat.add_zero]
  | q + 1, p, h1, h2 => by
    have e : p + (q + 1) * d = p + q * d + d := by rw [Nat.add_mul, Nat.one_mul, Nat.add_assoc]
    have h0 : 0 ≤ q * d := Nat.zero_le _
    rw [e] at h2 ⊢
    rw [copyN_at d hd n out hdl (p + q * d + d) (by omega) h2, Nat.add_sub_cancel]
    exact copyN_per d hd n out hdl q p h1 (by omega)
theorem copyN_block (d : Nat) (hd : 1 ≤ d) (out : Bs) (hdl : d ≤ out.length) (t c : Nat) (hdiv : d ∣ t) (hc : c ≤ t + d) : copyN out d (t + c) = copyN out d t ++ ((copyN out d t).drop (out.length - d)).take c := by
  have l1 := copyN_len d (t + c) out
  have l2 := copyN_len d t out
  apply ext_getD
  · rw [List.length_append, List.length_take, List.length_drop, l1, l2]; omega
  · intro i hi
    rw [l1] at hi
    have pre : ∀ j, j < out.length + t → (copyN out d (t + c)).getD j 0 = (copyN out d t).getD j 0 := by
      intro j hj
      rw [copyN_add]
      exact copyN_pre d c _ j (by rw [l2]; exact hj)
    by_cases h : i < out.length + t
    · rw [pre i h]
      simp [List.getD, List.getElem?_append_left (show i < (copyN out d t).length by rw [l2]; exact h)]
    · obtain ⟨q, rfl⟩ := hdiv
      obtain ⟨j, hj⟩ : ∃ j, i = out.length + d * q + j := ⟨i - (out.length + d * q), by omega⟩
      have e : i = (out.length - d + j) + (q + 1) * d := by rw [Nat.add_mul, Nat.one_mul, Nat.mul_comm q d]; omega
      have e2 : (q + 1) * d = d * q + d := by rw [Nat.add_mul, Nat.one_mul, Nat.mul_comm q d]
      have hper := copyN_per d hd (d * q + c) out hdl (q + 1) (out.length - d + j) (by omega) (by rw [← e]; omega)
      rw [← e, pre (out.length - d + j) (by omega)] at hper
      rw [hper, List.getD_eq_getElem?_getD, List.getD_eq_getElem?_getD, List.getElem?_append_right (by rw [l2]; omega), l2, List.getElem?_take_of_lt (by omega), List.getElem?_drop]
      congr 2
      omega
end Go.LzM
namespace Go.Proofs.YtllmogicmimjlaaDoor
open Go.RowKit Go.Own
namespace Lz
open Go.MatM Go.LzM Byt

set_option maxHeartbeats 4000000 in
theorem repeat_st {B : Nat} {w0 w : World} {Ps : List Asn} {ax : Option Addr} {k cx : Nat} {out : Bs} (H : Own.St B w0 w (AB ax k cx out :: Ps)) (d m : Nat) (hd : 1 ≤ d) (hdk : d ≤ k) (hb : k + m ≤ 1000000000) :
    Calls Tryd.prog 56 #[.slice ax k cx, .int .i64 (d : Int), .int .i64 (m : Int)] w fun e w' => ∃ a' c', e = .returned (.slice a' (k + m) c') ∧ Own.St B w0 w' (AB a' (k + m) c' (copyN out d m) :: Ps) := by
  have H0 := Lib.hid H
  have HOL := Lib.hid (ab_len H 0 rfl).1
  obtain ⟨F, hF⟩ : ∃ F, F = k - d := ⟨_, rfl⟩
  have hFi : (k : Int) - (d : Int) = (F : Int) := by omega
  have HFF := Lib.hid hF
  have hFk : F < k := by omega
  obtain ⟨N, hN⟩ : ∃ N, k + m = N := ⟨_, rfl⟩
  have HNN := Lib.hid hN
  rw [hN] at hb ⊢
  have hN0 : 0 < N := by omega
  have hFb : F ≤ 1000000000 := by omega
  clear H hF hN
  go_enter Tryd.func56, Tryd.ntmps56
  go_wp2_with (at_builtin; refine Byt.wpList_ab_append_zeros rfl (.tmp 14) (.tmp 15) rfl H0.out 0 rfl rfl m rfl (by rw [HNN.out]; exact hb) N HNN.out ?_; intro a1 c1 w1 h1; simp only [List.set_cons_zero] at h1; obtain ⟨g, rfl, hx1⟩ := ab_byte h1 0 rfl 0 hN0; clear hx1; have H1 := Lib.hid h1; clear h1)
  have hcN : N ≤ c1 := (ab_len H1.out 0 rfl).2.1
  go_loopw [7] (fun v7 wr => ∃ t : Nat, t ≤ m ∧ v7 = .int .i64 ((k + t : Nat) : Int) ∧ (d ∣ t ∨ t = m) ∧ Own.St B w0 wr (AB (some ⟨g, 0, none⟩) N c1 (copyN out d t ++ List.replicate (m - t) 0) :: Ps)) (fun v7 _ => N - (intOf v7).toNat)
  case atStart => exact ⟨0, Nat.zero_le _, rfl, .inl (Nat.dvd_zero d), H1.out⟩
  case round =>
    obtain ⟨t, htm, rfl, hdiv, H⟩ := hrel
    have H := Lib.hid H
    clear H1
    obtain ⟨p, hp⟩ : ∃ p, p = k + t := ⟨_, rfl⟩
    rw [← hp]
    have HP := Lib.hid hp
    have hNk := HNN.out
    by_cases ht : p < N
    · have hdt : d ∣ t := by
        rcases hdiv with h | h
        · exact h
        · omega
      obtain ⟨full, hfull⟩ : ∃ f, f = copyN out d t ++ List.replicate (m - t) 0 := ⟨_, rfl⟩
      rw [← hfull] at H
      obtain ⟨c, hc⟩ : ∃ c, c = min (p - F) (N - p) := ⟨_, rfl⟩
      have hlen : (copyN out d t).length = p := by rw [copyN_len, HOL.out, hp]
      have hfl : full.length = N := (ab_len H.out 0 rfl).1
      have hcp : 1 ≤ c := by omega
      have hcN2 : p + c ≤ N := by omega
      have hct : c ≤ t + d := by have := HFF.out; omega
      obtain ⟨news, hnews⟩ : ∃ n, n = (full.drop F).take c := ⟨_, rfl⟩
      have hnl : news.length = c := by rw [hnews, List.length_take, List.length_drop, hfl]; omega
      have hne : news = ((copyN out d t).drop (out.length - d)).take c := by
        rw [hnews, hfull, List.drop_append_of_le_length (by rw [hlen]; omega), List.take_append_of_le_length (by rw [List.length_drop, hlen]; omega), HFF.out, HOL.out]
      have hres : full.take p ++ news ++ full.drop (p + news.length) = copyN out d (t + c) ++ List.replicate (m - (t + c)) 0 := by
        rw [copyN_block d hd out (by rw [HOL.out]; exact hdk) t c hdt hct, hne, hfull]
        rw [hne] at hnl
        rw [hnl]
        congr 1
        · congr 1
          rw [← hlen, List.take_left]
        · rw [← hlen, List.drop_append, List.drop_eq_nil_of_le (by omega), List.nil_append, List.drop_replicate]
          congr 1
          omega
      have hv := vtake (vdrop (ab_view H.out.drew 0 rfl) F) c
      rw [← hnews, Nat.zero_add] at hv
      have HC := Lib.hid (vcells hv _ rfl)
      have HNL := Lib.hid (show news.length = min (p - F) (N - p) by rw [hnl, hc])
      have HRES := Lib.hid hres
      have hpc1 : ¬ c1 = p := by omega
      have hpc2 : ¬ c1 = F := by omega
      have hpp : p ≤ N := by omega
      have hpp1 : p ≤ c1 := by omega
      obtain ⟨pc, hpc⟩ : ∃ pc, p + c = pc := ⟨_, rfl⟩
      have HPC := Lib.hid hpc
      have hwr : IntKind.i64.wrap ((p : Int) + (c : Int)) = (pc : Int) := by rw [IntKind.wrap_i64]; omega
      clear hpc
      have hFp : F ≤ p := by omega
      have HQ : Hid (goInt news.length = .int .i64 (c : Int)) := by show goInt news.length = _; rw [hnl]; rfl
      have HCC := Lib.hid hnl
      have HDT := Lib.hid hdt
      clear hne hres hnl hnews hfull hc hlen hv hdiv hdt hfl hp
      go_wp2
      go_region_law (refine step_ab_copy rfl (.tmp 24) (.tmp 28) rfl H.out.drew 0 rfl p (N - p) (c1 - p) (by simp [Act.eval, Act.put]) (by omega) ⟨g, F, none⟩ (p - F) (c1 - F) news (by simp [Act.eval, Act.put]) HNL.out HC.out ?_; intro w2 h2; simp only [List.set_cons_zero] at h2; rw [HQ.out]; have H2 := Lib.hid h2; clear h2)
      all_goals
        go_simp
        go_wp2
        go_roundw
        case rel =>
          have h1 := HP.out
          have h2 := HNL.out
          have h3 := HCC.out
          have h4 := HFF.out
          have h5 := HNN.out
          have h6 := HPC.out
          rw [h3] at h2
          refine ⟨t + c, by omega, by simp only [Value.int.injEq, true_and]; omega, ?_, by rw [← HRES.out]; exact H2.out⟩
          rcases Nat.lt_or_ge (t + c) m with h | h
          · left
            obtain ⟨q, hq⟩ := HDT.out
            exact ⟨2 * q + 1, by rw [Nat.mul_add, Nat.mul_one, Nat.mul_left_comm, ← hq]; omega⟩
          · exact .inr (by omega)
        case measure =>
          have := HPC.out
          simp [intOf]
          omega
    · have htm2 : t = m := by have := HNN.out; have := HP.out; omega
      have H2 : Hid (Own.St B w0 wr (AB (some ⟨g, 0, none⟩) N c1 (copyN out d m) :: Ps)) := by
        have h := H.out
        rw [htm2, Nat.sub_self, List.replicate_zero, List.append_nil] at h
        exact h
      clear H hdiv htm2
      go_wp2
      go_ret
      exact ⟨_, _, rfl, H2.out⟩
end Lz
end Go.Proofs.YtllmogicmimjlaaDoor

end
section
namespace Go.Proofs.YtllmogicmimjlaaDoor
open Go.RowKit Go.Own
namespace Lz
open Go.MatM Go.LzM Byt

/-- an item as a value: kind, size, length, distance -/
def itemV (a b c d : Nat) : Value := .agg #[.int .i64 (a : Int), .int .i64 (b : Int), .int .i64 (c : Int), .int .i64 (d : Int)]


theorem heap_first (w : World) (o o' : Obj) : ((w.alloc o).alloc o').heap[w.heap.size]? = some o := (Below.heap_alloc _ _ _ (by simp)).trans (heap_alloc_new w o)
theorem infoItem : (Tryd.prog.info? 95).map (·.size) = some 4 := by kernel_rfl
theorem two_below (w : World) (o o' : Obj) : Below w.heap.size w ((w.alloc o).alloc o') := ((Below.refl _ w).alloc (Nat.le_refl _) _).alloc (by simp) _

/-- what the first item of an encoding is -/
def itemR (n : Nat) (c d : UInt8) : Value := if c.toNat < 128 then (if n < c.toNat + 2 then itemV 0 0 0 0 else itemV 2 (c.toNat + 2) (c.toNat + 1) 0) else (if n < 2 then itemV 0 0 0 0 else itemV 1 2 (c.toNat - 125) (d.toNat + 1))

set_option maxRecDepth 10000 in
set_option maxHeartbeats 4000000 in
theorem first_lit (ao : Option Addr) (n cap : Nat) (p : Bs) (w : World) (hg : Given w ao n cap p) (hb : n ≤ 1000000) (h0 : 1 ≤ n) (c : UInt8) (hc : p.getD 0 0 = c) (hl : c.toNat < 128) :
    Calls Tryd.prog 48 #[.slice ao n cap] w fun e w' => e = .returned (if n < c.toNat + 2 then itemV 0 0 0 0 else itemV 2 (c.toNat + 2) (c.toNat + 1) 0) ∧ Below w.heap.size w w' := by
  obtain ⟨gb, go, rfl, _, hlt, hc0⟩ := vat hg.view (k := 0) (by rw [hg.size]; omega)
  rw [hc, Nat.add_zero] at hc0
  obtain ⟨q, hq⟩ : ∃ q, c.toNat + 2 = q := ⟨_, rfl⟩
  obtain ⟨r, hr⟩ : ∃ r, c.toNat + 1 = r := ⟨_, rfl⟩
  have e1 : (c.toNat : Int) + 2 = (q : Int) := by omega
  have e2 : (c.toNat : Int) + 1 = (r : Int) := by omega
  have hli : (c.toNat : Int) < 128 := by omega
  rw [hq, hr]
  clear hg hc hq hr
  by_cases hnq : n < q
  · rw [if_pos hnq]
    go_enter Tryd.func48, Tryd.ntmps48
    go_wp2
    refine bodyPost_ret (results_cell_row rfl _ _ w.heap.size 95 _ (0, 0) _ rfl (heap_first w _ _) Tryd.underlying95 rfl infoItem) rfl ⟨rfl, two_below w _ _⟩
  · rw [if_neg hnq]
    go_enter Tryd.func48, Tryd.ntmps48
    go_wp2
    refine bodyPost_ret (results_cell_row rfl _ _ w.heap.size 95 _ (0, 0) _ rfl (heap_first w _ _) Tryd.underlying95 rfl infoItem) rfl ⟨rfl, two_below w _ _⟩

set_option maxRecDepth 10000 in
set_option maxHeartbeats 4000000 in
theorem first_ref (ao : Option Addr) (n cap : Nat) (p : Bs) (w : World) (hg : Given w ao n cap p) (hb : n ≤ 1000000) (h0 : 1 ≤ n) (c d : UInt8) (hc : p.getD 0 0 = c) (hd : p.getD 1 0 = d) (hl : ¬ c.toNat < 128) :
    Calls Tryd.prog 48 #[.slice ao n cap] w fun e w' => e = .returned (if n < 2 then itemV 0 0 0 0 else itemV 1 2 (c.toNat - 125) (d.toNat + 1)) ∧ Below w.heap.size w w' := by
  have hV := hg.view
  obtain ⟨gb, go, rfl, _, hlt, hc0⟩ := vat hV (k := 0) (by rw [hg.size]; omega)
  rw [hc, Nat.add_zero] at hc0
  obtain ⟨q, hq⟩ : ∃ q, c.toNat + 2 = q := ⟨_, rfl⟩
  obtain ⟨r, hr⟩ : ∃ r, c.toNat + 1 = r := ⟨_, rfl⟩
  obtain ⟨m, hm⟩ : ∃ m, c.toNat - 125 = m := ⟨_, rfl⟩
  have e1 : (c.toNat : Int) + 2 = (q : Int) := by omega
  have e2 : (c.toNat : Int) + 1 = (r : Int) := by omega
  have e3 : (c.toNat : Int) - 128 + 3 = (m : Int) := by omega
  have hli : ¬ (c.toNat : Int) < 128 := by omega
  have hc8 : c.toNat ≤ 255 := by have := c.toNat_lt; omega
  rw [hm]
  by_cases hn2 : n < 2
  · rw [if_pos hn2]
    clear hg hc hq hr hd hm hV
    have hn2i : (n : Int) < 2 := by omega
    go_enter Tryd.func48, Tryd.ntmps48
    go_wp2
    refine bodyPost_ret (results_cell_row rfl _ _ w.heap.size 95 _ (0, 0) _ rfl (heap_first w _ _) Tryd.underlying95 rfl infoItem) rfl ⟨rfl, two_below w _ _⟩
  · rw [if_neg hn2]
    have hc1 := vcell hV (k := 1) (by rw [hg.size]; omega)
    rw [hd] at hc1
    obtain ⟨D, hD⟩ : ∃ D, d.toNat + 1 = D := ⟨_, rfl⟩
    have e4 : (d.toNat : Int) + 1 = (D : Int) := by omega
    have hd8 : d.toNat ≤ 255 := by have := d.toNat_lt; omega
    have hn2i : ¬ (n : Int) < 2 := by omega
    have hn1 : 1 < n := by omega
    have hn1i : (1 : Int) < n := by omega
    rw [hD]
    clear hg hc hq hr hd hm hV hD
    go_enter Tryd.func48, Tryd.ntmps48
    go_wp2
    refine bodyPost_ret (results_cell_row rfl _ _ w.heap.size 95 _ (0, 0) _ rfl (heap_first w _ _) Tryd.underlying95 rfl infoItem) rfl ⟨rfl, two_below w _ _⟩
theorem first_any (ao : Option Addr) (n cap : Nat) (p : Bs) (w : World) (hg : Given w ao n cap p) (hb : n ≤ 1000000) (h0 : 1 ≤ n) (c d : UInt8) (hc : p.getD 0 0 = c) (hd : p.getD 1 0 = d) :
    Calls Tryd.prog 48 #[.slice ao n cap] w fun e w' => e = .returned (itemR n c d) ∧ Below w.heap.size w w' := by
  unfold itemR
  by_cases hl : c.toNat < 128
  · rw [if_pos hl]; exact first_lit ao n cap p w hg hb h0 c hc hl
  · rw [if_neg hl]; exact first_ref ao n cap p w hg hb h0 c d hc hd hl

set_option maxRecDepth 10000 in
set_option maxHeartbeats 4000000 in
theorem putB_lit {B : Nat} {w0 w : World} {Ps : List Asn} {ax : Option Addr} {k cx : Nat} {out : Bs} {ab : Option Addr} {n cap : Nat} {p : Bs} (H : Own.St B w0 w (AB ax k cx out :: Ps)) (hV : View w (fun k => k < B) ab p) (hn : p.length = n) (hc : n ≤ cap) (hcm : cap ≤ maxLen) (hno : ab = none → cap = 0) (q r : Nat) (hq : q ≤ n) (hq1 : 1 ≤ q) (hb : k + q ≤ 1000000000) :
    Calls Tryd.prog 49 #[.slice ax k cx, itemV 2 q r 0, .slice ab n cap] w fun e w' => ∃ a' c', e = .returned (.slice a' (k + (q - 1)) c') ∧ Own.St B w0 w' (AB a' (k + (q - 1)) c' (out ++ (p.take q).drop 1) :: Ps) := by
  obtain ⟨am, cm, hM1, hM2⟩ := cutMid (ao := ab) (l := p) (m := n) (cap := cap) 1 q hn hq1 hq hc hcm hno
  obtain ⟨s, hs⟩ : ∃ s, q - 1 = s := ⟨_, rfl⟩
  rw [hs] at hM1 hM2 ⊢
  have H1 := Lib.hid (H.alloc (.cells #[.int .i64 2, .int .i64 (q : Int), .int .i64 (r : Int), .int .i64 0] 95))
  have HC := Lib.hid (vcells (hM2.view _ _ (View.below hV (((Below.refl _ w).alloc H.size (.cells #[.int .i64 2, .int .i64 (q : Int), .int .i64 (r : Int), .int .i64 0] 95))))))
  have CM1 := Lib.hid hM1
  have CM2 := Lib.hid hM2
  have hbs : k + s ≤ 1000000000 := by omega
  clear H hV hM1 hM2 hs
  unfold itemV
  go_enter Tryd.func49, Tryd.ntmps49
  go_wp2_with (first
    | (refine Byt.wpList_val rfl (CM1.out _ (.tmp 11) (.const (.int .i64 1)) (.tmp 13) rfl _ _ rfl rfl rfl) ?_)
    | (at_builtin; refine Byt.wpList_ab_append rfl (.tmp 10) (.tmp 14) rfl H1.out 0 rfl rfl am s cm _ rfl (fun e => ⟨by have := CM2.out.none e; have := CM2.out.cap; omega, CM2.out.none e⟩) CM2.out.len HC.out hbs ?_; intro a4 c4 w4 h4; simp only [List.set_cons_zero] at h4; have H4 := Lib.hid h4; clear h4))
  go_ret
  exact ⟨_, _, rfl, H4.out⟩

set_option maxRecDepth 10000 in
set_option maxHeartbeats 4000000 in
theorem putB_ref {B : Nat} {w0 w : World} {Ps : List Asn} {ax : Option Addr} {k cx : Nat} {out : Bs} {v : Value} (H : Own.St B w0 w (AB ax k cx out :: Ps)) (d m : Nat) (hd : 1 ≤ d) (hdk : d ≤ k) (hb : k + m ≤ 1000000000) :
    Calls Tryd.prog 49 #[.slice ax k cx, itemV 1 2 m d, v] w fun e w' => ∃ a' c', e = .returned (.slice a' (k + m) c') ∧ Own.St B w0 w' (AB a' (k + m) c' (copyN out d m) :: Ps) := by
  have H1 := H.alloc (.cells #[.int .i64 1, .int .i64 2, .int .i64 (m : Int), .int .i64 (d : Int)] 95)
  have C := Lib.hid (repeat_st H1 d m hd hdk hb)
  clear H H1
  unfold itemV
  go_enter Tryd.func49, Tryd.ntmps49
  go_wp2_with (fail)
  refine C.out.mono ?_
  clear C
  rintro e w' ⟨a', c', rfl, h⟩
  have HH := Lib.hid h
  clear h
  go_wp2_with (fail)
  go_ret
  exact ⟨_, _, rfl, HH.out⟩
end Lz
end Go.Proofs.YtllmogicmimjlaaDoor

end
section
namespace Go.Proofs.YtllmogicmimjlaaDoor
open Go.RowKit Go.Own
namespace Lz
open Go.MatM Go.LzM Byt

theorem reads_nil (w w' : World) (h : Below w.heap.size w w') : Reads [] w (.slice none 0 0) w' := ⟨none, 0, rfl, ⟨.inl rfl, rfl, ⟨Nat.le_refl _, Nat.zero_le _⟩, fun _ => rfl⟩, h⟩

/-- an answer of Unpack -/
def UnDone (x : Bs × Nat) (w : World) (e : Ending) (w' : World) : Prop := ∃ v, e = .returned (.tuple #[v, .int .i64 (x.2 : Int)]) ∧ Reads x.1 w v w'
theorem un_err (x : Bs × Nat) (k : Nat) (hx : x = ([], k)) {w w' : World} (h : Below w.heap.size w w') : UnDone x w (.returned (.tuple #[.slice none 0 0, .int .i64 (k : Int)])) w' := by
  subst hx
  exact ⟨_, rfl, reads_nil w w' h⟩

end Lz
end Go.Proofs.YtllmogicmimjlaaDoor

end
section
namespace Go.Own
open Go.RowKit
/-- an object whose blocks are cells -/
def Asn.cellish (P : Asn) : Prop := ∀ (S : Nat → Prop) (w : World), P.holds S w → ∀ k, S k → ∃ o : Obj, w.heap[k]? = some o ∧ o.isCells = true
theorem Apart.cellish {w : World} : ∀ {Ps : List Asn} {S : Nat → Prop}, Apart w Ps S → (∀ P ∈ Ps, P.cellish) → ∀ k, S k → ∃ o : Obj, w.heap[k]? = some o ∧ o.isCells = true
  | [], _, h, _, k, hk => absurd hk (h k)
  | P :: _, _, ⟨_, _, h1, h2, _, h4⟩, hc, k, hk => ((h4 k).1 hk).elim (hc P (by simp) _ _ h1 k) (fun h => h2.cellish (fun Q hQ => hc Q (by simp [hQ])) k h)
theorem St.abide {B : Nat} {w0 W W' : World} {Ps : List Asn} {row : Option Nat} (h : St B w0 W Ps) (hc : ∀ P ∈ Ps, P.cellish) (hg : W.grownBy W' row) (hr : ∀ r, row = some r → B ≤ r ∧ ∃ o : Obj, W.heap[r]? = some o ∧ o.isCells = false) : St B w0 W' Ps := by
  obtain ⟨hb, hs, S, ha, hB⟩ := h
  have hst : Step (fun k => row = some k) (fun _ => False) W W' := ⟨hg.os, hg.tape, hg.output, hg.size, fun k hk hn => hg.block k hk (fun e => hn e.symm), fun _ h => h.elim⟩
  refine ⟨hb.trans (hst.below hs (fun k e => (hr k e).1)), Nat.le_trans hs hg.size, S, ha.keep hst (fun k hk e => ?_), hB⟩
  obtain ⟨o, ho, hoc⟩ := ha.cellish hc k hk
  obtain ⟨_, o', ho', hoc'⟩ := hr k e
  rw [ho] at ho'
  cases ho'
  rw [hoc] at hoc'
  cases hoc'
theorem ARow.cellish (e : TypeId) (size : Nat) (v : Value) (n : Nat) (xs : List Value) : (ARow e size v n xs).cellish := by
  intro S w h k hk
  have hv := (h.set k).1 hk
  rcases h.own.2 with ⟨rfl, _⟩ | ⟨g, cap, cur, rfl, _, hb, _⟩
  · cases hv
  · obtain rfl : g = k := by simpa [Value.ownBlock] using hv
    exact ⟨_, hb, rfl⟩
theorem ABlk.cellish (b : Nat) (c : Array Value) (t : TypeId) (fz : Nat × Nat) : (ABlk b (.cells c t fz)).cellish := by
  intro S w h k hk
  rw [(h.2 k).1 hk]
  exact ⟨_, h.1, rfl⟩
end Go.Own
namespace Go.Proofs.YtllmogicmimjlaaDoor
open Go.RowKit Go.Own Go.Shelf
attribute [local go_sem] Oper.semAt_some
namespace Lz
open Go.MatM Go.LzM Byt

/-- how many parts there are of n bytes, and how long each one is -/
def nch (n : Nat) : Nat := (n + 127) / 128
def chl (n j : Nat) : Nat := min 128 (n - 128 * j)
def come (N k : Nat) : List (Fin N) := (List.finRange N).take k
theorem come_succ (N k : Nat) (h : k < N) : come N (k + 1) = come N k ++ [⟨k, h⟩] := by
  unfold come
  rw [List.take_add_one, List.getElem?_eq_getElem (by simpa using h)]
  simp
theorem come_length (N k : Nat) (h : k ≤ N) : (come N k).length = k := by simp [come, h]
theorem come_all (N : Nat) : come N N = List.finRange N := List.take_of_length_le (by simp)

/-- what a round keeps: the two boxes -/
def KC (Bs Bn : Nat) (W W' : World) : Prop := W'.heap[Bs]? = W.heap[Bs]? ∧ W'.heap[Bn]? = W.heap[Bn]?
theorem KC.refl (Bs Bn : Nat) (W : World) : KC Bs Bn W W := ⟨rfl, rfl⟩
theorem KC.trans {Bs Bn : Nat} {A B C : World} (h : KC Bs Bn A B) (k : KC Bs Bn B C) : KC Bs Bn A C := ⟨k.1.trans h.1, k.2.trans h.2⟩
theorem KC.box1 {Bs Bn : Nat} {A B : World} (h : KC Bs Bn A B) {v : Value} (hc : A.cell? ⟨Bs, 0, none⟩ = some v) : B.cell? ⟨Bs, 0, none⟩ = some v := by
  rw [← hc]; unfold World.cell?; simp only [h.1]
theorem KC.box2 {Bs Bn : Nat} {A B : World} (h : KC Bs Bn A B) {v : Value} (hc : A.cell? ⟨Bn, 0, none⟩ = some v) : B.cell? ⟨Bn, 0, none⟩ = some v := by
  rw [← hc]; unfold World.cell?; simp only [h.2]
theorem KC.drewN {Bs Bn : Nat} {A B : World} (h : KC Bs Bn A B) (n : Nat) : KC Bs Bn A (B.drewN n) := h

set_option maxRecDepth 100000 in
set_option maxHeartbeats 4000000 in
/-- the closure of slices.Chunk -/
theorem chunk1_in (n : Nat) (hn : 1 ≤ n) (l Bs Bn b off len cap : Nat) (hlc : len ≤ cap) (hreach : len ≤ 1000000000) (hcap : cap ≤ maxLen) (J Jx : List (Fin (nch len)) → World → Prop) (hJd : ∀ pre W n, J pre W → J pre (W.drewN n))
    (hY : ∀ pre x W, J pre W → pre.length < nch len → YieldAt Fence.wide (n - 1) Tryd.prog l #[.slice (some ⟨b, off + 128 * x.1, none⟩) (chl len x.1) (chl len x.1)] W fun e W' =>
      (e = .returned (.bool true) ∧ J (pre ++ [x]) W' ∧ KC Bs Bn W W') ∨ (e = .returned (.bool false) ∧ Jx (pre ++ [x]) W'))
    (W : World) (hBs : W.cell? ⟨Bs, 0, none⟩ = some (.slice (some ⟨b, off, none⟩) len cap)) (hBn : W.cell? ⟨Bn, 0, none⟩ = some (.int .i64 128)) (h0 : J [] W) :
    CallsIn Fence.wide n Tryd.prog 59 #[.func (.yield l) #[] #[], .pointer (some ⟨Bs, 0, none⟩), .pointer (some ⟨Bn, 0, none⟩)] W fun e W' => (∃ v, e = .returned v) ∧
      ((∃ ys, ys = come (nch len) (nch len) ∧ J ys W') ∨ (∃ pre, True ∧ Jx pre W')) := by
  unfold maxLen at hcap
  refine callsIn_of_wp Tryd.func59 rfl trivial ?_ rfl
  simp only [Tryd.ntmps59, List.size_toArray, List.length_cons, List.length_nil, Nat.reduceAdd, Nat.reduceSub, Array.replicate_succ, Array.replicate_zero, List.push_toArray, List.append_toArray, List.nil_append, List.cons_append]
  gi_wp2
  gi_loopw [4] (fun i wr => ∃ k p : Nat, k ≤ nch len ∧ p = 128 * k ∧ i = .int .i64 (p : Int) ∧ J (come (nch len) k) wr ∧ KC Bs Bn W wr)
    (fun i _ => (len + 128) - (intOf i).toNat)
  case atStart => exact ⟨0, 0, Nat.zero_le _, rfl, rfl, h0, KC.refl _ _ _⟩
  case round =>
    obtain ⟨k, p, hk, hp, rfl, hJs, hnx⟩ := hrel
    have hBr := hnx.box1 hBs
    have hBq := hnx.box2 hBn
    by_cases hlt : k < nch len
    · have hpl : p < len := by unfold nch at hlt; omega
      obtain ⟨m, hm⟩ : ∃ m, m = chl len k := ⟨_, rfl⟩
      have hm1 : m ≤ 128 := by rw [hm]; unfold chl; omega
      have hm2 : p + m ≤ len := by rw [hm]; unfold chl; omega
      have hm0 : 0 < m := by rw [hm]; unfold chl; omega
      have hmin : min (128 : Int) ((len - p : Nat) : Int) = (m : Int) := by rw [hm]; unfold chl; omega
      have hmin2 : min (128 : Int) ((len : Int) - (p : Int)) = (m : Int) := by omega
      have hY' := fun n => hY _ ⟨k, hlt⟩ (wr.drewN n) (hJd _ _ n hJs) (by rw [come_length _ _ hk]; exact hlt)
      dsimp only at hY'
      obtain ⟨q, hq⟩ : ∃ q, q = p + m := ⟨_, rfl⟩
      have hpq : (p : Int) + (m : Int) = (q : Int) := by omega
      have hqc : q ≤ cap := by omega
      have hmq : m = q - p := by omega
      rw [← hm, ← hp, hmq] at hY'
      have hpq1 : p ≤ q := by omega
      have HYY := Lib.hid hY'
      clear hY' hq
      have HP := Lib.hid (And.intro hp hk)
      have HN := Lib.hid hnx
      have HM := Lib.hid hm
      have hpc : ¬ cap = p := by omega
      clear hm hp hk hnx hJs hmq
      gi_wp2
      gi_quiet (fail)
      obtain ⟨fn, tmps, assign, body, hy, hR⟩ := HYY.out nq
      have HR := Lib.hid hR
      clear hR
      gi_wp2
      refine HR.out.mono ?_
      rintro e W3 (⟨rfl, hJ3, hk3⟩ | ⟨rfl, hJx3⟩)
      · have hB3 := (KC.trans (HN.out.drewN _) hk3).box2 hBn
        have HJ := Lib.hid hJ3
        have HK3 := Lib.hid (KC.trans (HN.out.drewN _) hk3)
        have HLT := Lib.hid hpl
        clear hJ3 hk3 hy HR hpq hmin hmin2 hqc hpc hBr hBq hm1 hm2 hm0 hpq1 hBs hBn hY
        gi_wp2
        go_roundw
        case rel =>
          refine ⟨k + 1, p + 128, by omega, by have := HP.out.1; omega, by go_num, ?_, HK3.out⟩
          rw [come_succ _ _ hlt]
          exact HJ.out
        case measure => simp [intOf]; omega
      · have HJ := Lib.hid hJx3
        clear hJx3 hy HR hpq hmin hmin2 hqc hpc hBr hBq hm1 hm2 hm0 hpq1 hBs hBn hY
        gi_wp2
        refine bodyPost_ret (results_none rfl _ _ _) rfl ?_
        exact ⟨⟨_, rfl⟩, .inr ⟨_, trivial, HJ.out⟩⟩
    · have hke : k = nch len := by omega
      have hpl : len ≤ p := by rw [hp, hke]; unfold nch; omega
      subst hke
      have HJ := Lib.hid hJs
      clear hp hJs hnx
      gi_wp2
      go_end0
      exact ⟨⟨_, rfl⟩, .inl ⟨_, rfl, HJ.out⟩⟩
end Lz
end Go.Proofs.YtllmogicmimjlaaDoor

end
section
namespace Go.Own
open Go.RowKit
/-- from one world to the next only cells of the object's have turned -/
theorem Step.keepsOthers {S T : Nat → Prop} {w w' : World} (h : Step S T w w') (hc : ∀ k, S k → ∃ o : Obj, w.heap[k]? = some o ∧ o.isCells = true) : KeepsOthers w w' :=
  ⟨h.size, fun k o hk ho => by
    refine (h.block k (Array.getElem?_eq_some_iff.1 hk).1 (fun hs => ?_)).trans hk
    obtain ⟨o', ho', hoc⟩ := hc k hs
    rw [hk] at ho'
    cases ho'
    rw [hoc] at ho
    cases ho⟩
end Go.Own
namespace Go.Proofs.YtllmogicmimjlaaDoor
open Go.RowKit Go.Own Go.Shelf
attribute [local go_sem] Oper.semAt_some
namespace Byt
section
variable {B : Nat} {w0 w : World} {Ps : List Asn} {ao : Option Addr} {n cap : Nat} {l : List UInt8}
theorem ab_append_others (H : St B w0 w Ps) (i : Nat) (hi : Ps[i]? = some (AB ao n cap l)) (ty : TypeId) (bo : Option Addr) (m c : Nat) (news : List UInt8) (hno : bo = none → m = 0 ∧ c = 0) (hl : news.length = m)
    (hc : ∀ a, bo = some a → ∀ j u, (news.map byteV)[j]? = some u → w.cell? (a.add j) = some u) (b1 : n + m ≤ 1000000000) :
    ∃ ao' cap' w', (Builtin.append_ #[22, 22] ty #[.slice ao n cap, .slice bo m c]).run Tryd.prog w = .ok (.slice ao' (n + m) cap') w' ∧ St B w0 w' (Ps.set i (AB ao' (n + m) cap' (l ++ news))) ∧ KeepsOthers w w' := by
  obtain ⟨i0, hi0, hz0, hz1, hz2⟩ := info_parts infoU8
  obtain ⟨S, hS, _, put⟩ := H.at i hi
  obtain ⟨v', w', T', hr, hrow, hst⟩ := run_append_row (P := Tryd.prog) w 22 ty 5 i0 (.int .u8 0) 1 1 Tryd.underlying22 hi0 hz0 hz1 hz2 rfl (by decide) (.slice ao n cap) n (l.map byteV) hS bo m c (news.map byteV) hno (by rw [List.length_map, hl, Nat.mul_one]) hc (byteV_one _) (by unfold maxLen; omega) (by omega)
  obtain ⟨ao', cap', rfl, _⟩ := hrow.form
  rw [← List.map_append] at hrow
  exact ⟨ao', cap', w', hr, put T' w' (AB ao' (n + m) cap' (l ++ news)) hrow hst, hst.keepsOthers (fun k hk => ARow.cellish _ _ _ _ _ S w hS k hk)⟩
/-- append inside a fence -/
theorem wpListIn_ab_append {F : Fence} {d : Nat} {ops : Array Oper} {rest : List Oper} {o : Oper} {a : Act} {Q : Exit → Act → World → Prop} (hgd : o.guard = none) (s x : Operand)
    (ho : o.op = .call { callee := .builtin .append, args := #[s, x], argTypes := #[22, 22] }) (H : St B w0 w Ps) (i : Nat) (hi : Ps[i]? = some (AB ao n cap l)) (hs : a.eval s = .slice ao n cap)
    (bo : Option Addr) (m c : Nat) (news : List UInt8) (hx : a.eval x = .slice bo m c) (hno : bo = none → m = 0 ∧ c = 0) (hl : news.length = m)
    (hc : ∀ a, bo = some a → ∀ j u, (news.map byteV)[j]? = some u → w.cell? (a.add j) = some u) (b1 : n + m ≤ 1000000000)
    (h : ∀ ao' cap' w', St B w0 w' (Ps.set i (AB ao' (n + m) cap' (l ++ news))) → KeepsOthers w w' → wpListIn F d Tryd.prog ops Q rest (a.put o.dst (.slice ao' (n + m) cap')) w') : wpListIn F d Tryd.prog ops Q (o :: rest) a w := by
  refine wpListIn_plain hgd fun K hK => ?_
  obtain ⟨ao', cap', w', hrun, h1, h2⟩ := ab_append_others H i hi o.type bo m c news hno hl hc b1
  unfold Oper.wpIn
  refine ⟨?_, ?_⟩
  · simp [Oper.about, ho, resolve, Target.leads, Sem.run_pure]
  · rw [Oper.semAt_plain F _ _ (by rw [ho]; intro c hc'; cases hc')]
    simp [execOp, ho, resolve, invoke, builtin, hs, hx, hrun, Result.andThen]
    exact hK _ _ (h ao' cap' w' h1 h2)
end
end Byt
namespace Lz
open Go.MatM Go.LzM Byt

def partV (ao : Option Addr) (n j : Nat) : Value := .slice (ao.map fun a => a.add (128 * j)) (chl n j) (chl n j)

set_option maxRecDepth 100000 in
set_option maxHeartbeats 1000000 in
/-- .. of no bytes: no round -/
theorem chunk0_in (n l Bs Bn : Nat) (ao : Option Addr) (cap : Nat) (J : List (Fin (nch 0)) → World → Prop) (W : World) (hBs : W.cell? ⟨Bs, 0, none⟩ = some (.slice ao 0 cap)) (h0 : J [] W) :
    CallsIn Fence.wide n Tryd.prog 59 #[.func (.yield l) #[] #[], .pointer (some ⟨Bs, 0, none⟩), .pointer (some ⟨Bn, 0, none⟩)] W fun e W' => (∃ v, e = .returned v) ∧ J [] W' := by
  refine callsIn_of_wp Tryd.func59 rfl trivial ?_ rfl
  simp only [Tryd.ntmps59, List.size_toArray, List.length_cons, List.length_nil, Nat.reduceAdd, Nat.reduceSub, Array.replicate_succ, Array.replicate_zero, List.push_toArray, List.append_toArray, List.nil_append, List.cons_append]
  gi_wp2
  gi_loopw [4] (fun i wr => i = .int .i64 0 ∧ J [] wr ∧ wr = W) (fun _ _ => 0)
  case atStart => exact ⟨rfl, h0, rfl⟩
  case round =>
    obtain ⟨rfl, hJs, rfl⟩ := hrel
    gi_wp2
    go_end0
    exact ⟨⟨_, rfl⟩, hJs⟩

set_option maxHeartbeats 1000000 in
/-- slices.Chunk(s, 128): both are boxed; the function value captures the boxes -/
theorem chunk_in (n : Nat) (a : Option Addr) (len cap : Nat) (w : World) :
    CallsIn Fence.wide n Tryd.prog 54 #[.slice a len cap, .int .i64 128] w fun e w' => e = .returned (.func (.func 59) #[] #[.pointer (some ⟨w.heap.size, 0, none⟩), .pointer (some ⟨w.heap.size + 1, 0, none⟩)]) ∧ w' = (w.alloc (.cells #[.slice a len cap] 22)).alloc (.cells #[.int .i64 128] 3) := by
  refine callsIn_of_wp Tryd.func54 rfl trivial ?_ rfl
  simp only [Tryd.ntmps54, List.size_toArray, List.length_cons, List.length_nil, Nat.reduceAdd, Nat.reduceSub, Array.replicate_succ, Array.replicate_zero, List.push_toArray, List.append_toArray, List.nil_append, List.cons_append]
  gi_wp2
  go_ret
  exact ⟨rfl, rfl⟩

theorem grownBy_drewN (W : World) (n : Nat) : W.grownBy (W.drewN n) none := ⟨rfl, rfl, rfl, Nat.le_refl _, fun _ _ _ => rfl⟩
theorem chunk_stops (n : Nat) (hn : 1 ≤ n) (Bs Bn : Nat) (ao : Option Addr) (len cap : Nat) (hao : len = 0 ∨ ∃ b o, ao = some ⟨b, o, none⟩) (hlc : len ≤ cap) (hreach : len ≤ 1000000000) (hcap : cap ≤ maxLen) (w : World) (hB1 : Bs < w.heap.size) (hB2 : Bn < w.heap.size)
    (hc1 : w.cell? ⟨Bs, 0, none⟩ = some (.slice ao len cap)) (hc2 : w.cell? ⟨Bn, 0, none⟩ = some (.int .i64 128)) :
    SeqStopsK Fence.wide n Tryd.prog 59 #[.pointer (some ⟨Bs, 0, none⟩), .pointer (some ⟨Bn, 0, none⟩)] (fun x : Fin (nch len) => #[partV ao len x.1]) (KC Bs Bn) (fun ys => ys = List.finRange (nch len)) (fun _ => True) (nch len) w :=
  fun l J Jx W hW hJ _ hY h0 => by
  have d1 := (hW.cell (p := ⟨Bs, 0, none⟩) hB1).trans hc1
  have d2 := (hW.cell (p := ⟨Bn, 0, none⟩) hB2).trans hc2
  rcases hao with rfl | ⟨b, o, rfl⟩
  · exact (chunk0_in n l Bs Bn ao cap J W d1 h0).mono fun e W' ⟨he, hj⟩ => ⟨he, .inl ⟨_, rfl, hj⟩⟩
  · refine (chunk1_in n hn l Bs Bn b o len cap hlc hreach hcap J Jx (fun pre W n h => hJ pre W _ none h (grownBy_drewN W n) (fun r e => by cases e)) ?_ W d1 d2 h0).mono ?_
    · intro pre x W1 hp hl
      have h := hY pre x W1 hp hl
      unfold partV at h
      simp only [Option.map_some, add_of] at h
      exact h
    · rintro e W' ⟨he, ⟨ys, rfl, hj⟩ | ⟨pre, _, hj⟩⟩
      · exact ⟨he, .inl ⟨_, come_all _, hj⟩⟩
      · exact ⟨he, .inr ⟨pre, trivial, hj⟩⟩

/-- the bytes of a part: how many, and they -/
def partB (l : Bs) (j : Nat) : Bs := UInt8.ofNat (chl l.length j - 1) :: (l.drop (128 * j)).take 128
theorem part_len (l : Bs) (j : Nat) : ((l.drop (128 * j)).take 128).length = chl l.length j := by
  unfold chl; rw [List.length_take, List.length_drop]
theorem nch_step (n : Nat) (h : n ≠ 0) : nch n = nch (n - 128) + 1 := by unfold nch; omega
theorem plain_parts : ∀ (k : Nat) (l : Bs), nch l.length = k → plain l = (List.range k).flatMap (partB l) := by
  intro k
  induction k with
  | zero =>
    intro l h
    have : l.length = 0 := by unfold nch at h; omega
    rw [List.eq_nil_of_length_eq_zero this]; rfl
  | succ k ih =>
    intro l h
    have h0 : l.length ≠ 0 := by intro e; rw [e] at h; simp [nch] at h
    have h1 : nch (l.drop 128).length = k := by rw [nch_step _ h0] at h; rw [List.length_drop]; omega
    rw [plain_cons l h0, ih (l.drop 128) h1, List.range_succ_eq_map, List.flatMap_cons, List.flatMap_map]
    have e0 : partB l 0 = UInt8.ofNat (min l.length 128 - 1) :: l.take 128 := by
      unfold partB chl
      rw [Nat.mul_zero, Nat.sub_zero, List.drop_zero, Nat.min_comm]
    have e1 : partB (l.drop 128) = fun j => partB l (j + 1) := by
      funext j
      unfold partB chl
      rw [List.length_drop, List.drop_drop, show l.length - 128 - 128 * j = l.length - 128 * (j + 1) by omega, show 128 + 128 * j = 128 * (j + 1) by omega]
    rw [e0, List.cons_append, e1]
theorem plain_fin (l : Bs) : plain l = (List.finRange (nch l.length)).flatMap (fun x => partB l x.1) := by
  rw [plain_parts _ l rfl]
  have e : List.range (nch l.length) = (List.finRange (nch l.length)).map (fun x => x.1) := by
    apply List.ext_getElem
    · simp
    · intro i h1 h2
      simp
  rw [e, List.flatMap_map]
theorem partB_len (l : Bs) (x : Fin (nch l.length)) : (partB l x.1).length ≤ 129 := by
  unfold partB; rw [List.length_cons, part_len]; unfold chl; omega
theorem parts_len (l : Bs) : ∀ (pre : List (Fin (nch l.length))), (pre.flatMap (fun x => partB l x.1)).length ≤ 129 * pre.length
  | [] => Nat.le_refl _
  | x :: pre => by
    have := parts_len l pre
    have := partB_len l x
    rw [List.flatMap_cons, List.length_append, List.length_cons]
    omega
end Lz
end Go.Proofs.YtllmogicmimjlaaDoor

end
section
namespace Go.Proofs.YtllmogicmimjlaaDoor
open Go.RowKit Go.Own Go.Shelf
attribute [local go_sem] Oper.semAt_some
namespace Lz
open Go.MatM Go.LzM Byt

/-- the objects of putLiterals -/
def PO (b0 : Nat) (ab : Option Addr) (m cb : Nat) (ao : Option Addr) (n cap : Nat) (l : Bs) (Ps : List Asn) : List Asn :=
  AVals (b0 + 1 + 1) 3 [.int .i64 128] :: AVals (b0 + 1) 22 [.slice ab m cb] :: AVals b0 22 [.slice ao n cap] :: AB ao n cap l :: Ps
theorem PO.cellish {b0 : Nat} {ab : Option Addr} {m cb : Nat} {ao : Option Addr} {n cap : Nat} {l : Bs} {Ps : List Asn} (h : ∀ P ∈ Ps, P.cellish) : ∀ P ∈ PO b0 ab m cb ao n cap l Ps, P.cellish := by
  intro P hP
  simp only [PO, List.mem_cons] at hP
  rcases hP with rfl | rfl | rfl | rfl | hP
  · exact ABlk.cellish _ _ _ _
  · exact ABlk.cellish _ _ _ _
  · exact ABlk.cellish _ _ _ _
  · exact ARow.cellish _ _ _ _ _
  · exact h P hP
theorem PO.kc {B : Nat} {w0 W W' : World} {b0 : Nat} {ab : Option Addr} {m cb : Nat} {ao ao' : Option Addr} {n cap n' cap' : Nat} {l l' : Bs} {Ps : List Asn} (H : Own.St B w0 W (PO b0 ab m cb ao n cap l Ps)) (H' : Own.St B w0 W' (PO b0 ab m cb ao' n' cap' l' Ps)) : KC (b0 + 1) (b0 + 1 + 1) W W' :=
  ⟨(H'.block 1 rfl).trans (H.block 1 rfl).symm, (H'.block 0 rfl).trans (H.block 0 rfl).symm⟩

set_option maxRecDepth 100000 in
set_option maxHeartbeats 4000000 in
theorem putLits_st {B : Nat} {w0 w : World} {Ps : List Asn} {ax : Option Addr} {k cx : Nat} {done : Bs} {ab : Option Addr} {m cb : Nat} {l : Bs} (H : Own.St B w0 w (AB ax k cx done :: Ps)) (hPs : ∀ P ∈ Ps, P.cellish)
    (hV : View w (fun k => k < B) ab l) (hl : l.length = m) (hm : m ≤ cb) (hcb : cb ≤ maxLen) (hb : k + 2 * m ≤ 500000000) :
    Calls Tryd.prog 36 #[.slice ax k cx, .slice ab m cb] w fun e w' => ∃ a' c', e = .returned (.slice a' (k + (plain l).length) c') ∧ Own.St B w0 w' (AB a' (k + (plain l).length) c' (done ++ plain l) :: Ps) := by
  have hao : m = 0 ∨ ∃ b o, ab = some ⟨b, o, none⟩ := by
    rcases hV with rfl | ⟨b, o, h, _⟩
    · exact .inl hl.symm
    · exact .inr ⟨b, o, h⟩
  have H0 := Lib.hid H
  refine (callsIn_wide (n := 5)).1 ?_
  refine callsIn_of_wp_marks Tryd.func36 rfl trivial ?_ rfl
  simp only [Tryd.ntmps36, List.size_toArray, List.length_cons, List.length_nil, Nat.reduceAdd, Nat.reduceSub, Array.replicate_succ, Array.replicate_zero, List.push_toArray, List.append_toArray, List.nil_append, List.cons_append]
  gi_wp2_with (refine ⟨trivial, ?_⟩; gi_at_call 54; refine (chunk_in _ _ _ _ _).mono ?_; rintro e w' ⟨rfl, rfl⟩)
  obtain ⟨W0, hW0⟩ : ∃ W0, (((w.alloc (.cells #[.slice ax k cx] 22)).alloc (.cells #[.slice ab m cb] 22)).alloc (.cells #[.int .i64 128] 3)) = W0 := ⟨_, rfl⟩
  have hst : Own.St B w0 W0 (PO w.heap.size ab m cb ax k cx done Ps) := by
    rw [← hW0]
    have h1 := H.boxV 22 [.slice ax k cx]
    have h2 := h1.boxV 22 [.slice ab m cb]
    have h3 := h2.boxV 3 [.int .i64 128]
    simp only [World.size_alloc] at h2 h3
    exact h3
  have hsz : W0.heap.size = w.heap.size + 3 := by rw [← hW0]; simp
  have hc1 := (hst.cellV 1 rfl 0 rfl).1
  have hc2 := (hst.cellV 0 rfl 0 rfl).1
  have hB : B ≤ w.heap.size := H.size
  have hBw : Below B w W0 := by
    rw [← hW0]
    exact (((Below.refl _ w).alloc hB _).alloc (by simp; omega) _).alloc (by simp; omega) _
  have hV0 := View.below hV hBw
  rw [hW0]
  have hbnd : ∀ pre : List (Fin (nch m)), pre.length ≤ nch m → k + (pre.flatMap (fun x => partB l x.1)).length ≤ 1000000 + 500000000 := by
    intro pre hpre
    subst hl
    have := parts_len l pre
    have : 128 * nch l.length ≤ l.length + 127 := by unfold nch; omega
    omega
  have hnb : nch m ≤ 5000000 := by unfold nch; omega
  clear hV hW0 hBw H H0
  refine wpIn_rangeFunc_ownG rfl (by decide) (gf := 59) (lb := #[.pointer (some ⟨w.heap.size + 1, 0, none⟩), .pointer (some ⟨w.heap.size + 1 + 1, 0, none⟩)]) rfl trivial (enters_of Tryd.func59 (by kernel_rfl) rfl)
    (chunk_stops _ (by decide) (w.heap.size + 1) (w.heap.size + 1 + 1) ab m cb hao hm (by omega) hcb W0 (by omega) (by omega) hc1 hc2) (fun h k => KC.trans h k)
    (fun W l o o' hl h h1 h2 => ⟨World.putObj_heap_other (by omega), World.putObj_heap_other (by omega)⟩) (Below.refl _ _) (fun _ => rfl)
    (fun pre W => ∃ ao n cap, n = k + (pre.flatMap (fun x => partB l x.1)).length ∧ Own.St B w0 W (PO w.heap.size ab m cb ao n cap (done ++ pre.flatMap (fun x => partB l x.1)) Ps))
    (fun _ _ _ => False)
    (fun pre W W' row hs hg hr => by
      obtain ⟨ao, n, cap, hn, hS⟩ := hs
      exact ⟨ao, n, cap, hn, hS.abide (PO.cellish hPs) hg (fun r e => ⟨by have := (hr r e).1; omega, (hr r e).2⟩)⟩)
    (fun c pre W W' row hs hg hr => hs)
    ⟨ax, k, cx, by simp, by simpa using hst⟩
    (fun x => { tmps := #[Value.slice ax k cx, Value.slice ab m cb, Value.pointer (some ⟨w.heap.size, 0, none⟩), undef,
          Value.slice none 0 0, partV ab m x.1, Value.slice ab m cb,
          Value.func (Fn.func 59) #[] #[Value.pointer (some ⟨w.heap.size + 1, 0, none⟩), Value.pointer (some ⟨w.heap.size + 1 + 1, 0, none⟩)],
          partV ab m x.1, undef, undef, undef, undef, undef, undef, undef, undef, undef, undef, undef], defers := [] }) ?assign ?body ?done ?stop
  case assign =>
    intro l x W K hK
    gi_wp2
    exact hK
  case stop => rintro D c pre W hD _ h; exact h.elim
  case done =>
    rintro D ys W hD hys ⟨ao, n, cap, hn, hS⟩ hK
    have hpl : ys.flatMap (fun x => partB l x.1) = plain l := by rw [hys]; subst hl; exact (plain_fin l).symm
    rw [hpl] at hn hS
    have hcb1 := (hS.cellV 2 rfl 0 rfl).1
    have HS := Lib.hid hS
    have HK := Lib.hid hK
    have HD := Lib.hid hD
    have HN := Lib.hid hn
    have HPS := Lib.hid hPs
    have HB := Lib.hid (And.intro hB hsz)
    clear hS hK hD hn hpl hys hPs hst hc1 hc2 hV0 hbnd hnb hB hsz hl hb hao
    gi_wp2
    refine ⟨by simp, .inl ⟨_, _, rfl, run_takeDeferred HK.out, ?_⟩⟩
    refine ⟨.slice ao n cap, ?_, ?_⟩
    · simp [results, Tryd.f36, go_sem]
    · refine ⟨ao, cap, by rw [HN.out], ?_⟩
      rw [← HN.out]
      have h := HS.out.abide (PO.cellish HPS.out) (grownBy_putObj' W D (.deferred none)) (fun r e => by cases e; exact ⟨by have := HD.out; have := HB.out; omega, _, HK.out, rfl⟩)
      exact h.drop 3
  case body =>
    rintro l' pre x W ⟨ao, n, cap, hn, hS⟩ hpl
    have hm0 : ¬ m = 0 := by intro e; subst e; exact absurd x.2 (by unfold nch; omega)
    rcases hao with h | ⟨gb, go, rfl⟩
    · exact absurd h hm0
    have hVW := View.same hV0 (Below.both hst.below hS.below)
    obtain ⟨q, hq⟩ : ∃ q, q = chl m x.1 := ⟨_, rfl⟩
    have hx := x.2
    have hq1 : 1 ≤ q := by rw [hq]; unfold chl; have : 128 * nch m ≤ m + 127 := by unfold nch; omega
                           omega
    have hq2 : q ≤ 128 := by rw [hq]; unfold chl; omega
    obtain ⟨c, hc⟩ : ∃ c, c = UInt8.ofNat (q - 1) := ⟨_, rfl⟩
    have hcn : c.toNat = q - 1 := by rw [hc, ofNat_toNat (q - 1) (by omega)]
    have hsub : (q : Int) - 1 = (c.toNat : Int) := by omega
    have hcb : c.toNat ≤ 127 := by omega
    obtain ⟨t, ht⟩ : ∃ t, t = (l.drop (128 * x.1)).take 128 := ⟨_, rfl⟩
    have htl : t.length = q := by rw [ht, part_len, hl, hq]
    have hpb : partB l x.1 = c :: t := by unfold partB; rw [hl, ← hq, ← hc, ← ht]
    obtain ⟨off, hoff⟩ : ∃ off, off = go + 128 * x.1 := ⟨_, rfl⟩
    have hpv : partV (some ⟨gb, go, none⟩) m x.1 = .slice (some ⟨gb, off, none⟩) q q := by unfold partV; rw [← hq, hoff]; simp [add_of]
    have hVt : View W (fun k => k < B) (some ⟨gb, off, none⟩) t := by rw [ht, hoff]; exact vtake (vdrop hVW _) 128
    have hnk : n + 1 + q ≤ 1000000000 := by have := hbnd pre (by omega); omega
    have hsnoc : (pre ++ [x]).flatMap (fun x => partB l x.1) = pre.flatMap (fun x => partB l x.1) ++ (c :: t) := by rw [List.flatMap_append]; simp [hpb]
    obtain ⟨bs, hbs⟩ : ∃ bs, bs = pre.flatMap (fun x => partB l x.1) := ⟨_, rfl⟩
    rw [← hbs] at hn hS hsnoc
    rw [hpv]
    obtain ⟨hcb1, hcb2⟩ := hS.cellV 2 rfl 0 rfl
    have HS := Lib.hid hS
    have HN := Lib.hid hn
    have HV := Lib.hid hVt
    have HL := Lib.hid htl
    have HSN := Lib.hid hsnoc
    clear hS hn hVt htl hsnoc hbs hpv hoff hpb ht hcn hc hq hx hVW hm0 hpl hbnd hnb hV0 hc1 hc2 hst hPs hl
    gi_wp2_with (first
      | (gi_at_builtin; refine Byt.wpListIn_ab_append rfl (.tmp 9) (.tmp 14) rfl (HS.out.alloc (.cells #[.int .u8 (c.toNat : Int)] 5)) 3 rfl rfl (some ⟨W.heap.size, 0, none⟩) 1 1 [c] rfl (by intro h; cases h) rfl (one_cells8 W c _) (by omega) ?_; intro a3 c3 wa ha hka; simp only [PO, List.set_cons_succ, List.set_cons_zero] at ha; obtain ⟨hd1, hd2⟩ := ha.cellV 2 rfl 0 rfl; have HA := Lib.hid (ha.storeV 2 rfl 0 (.slice a3 (n + 1) c3)); have HKA := Lib.hid hka; have HVA := Lib.hid (vcells (View.same HV.out (Below.both HS.out.below (ha.storeV 2 rfl 0 (.slice a3 (n + 1) c3)).below))); clear ha hka hcb1 hcb2)
      | (gi_at_builtin; refine Byt.wpListIn_ab_append rfl (.tmp 16) (.tmp 17) rfl HA.out 3 rfl rfl (some ⟨gb, off, none⟩) q q t rfl (by intro h; cases h) HL.out HVA.out (by omega) ?_; intro a4 c4 wb hb4 hkb; simp only [List.set_cons_succ, List.set_cons_zero] at hb4; obtain ⟨he1, he2⟩ := hb4.cellV 2 rfl 0 rfl; have HB4 := Lib.hid (hb4.storeV 2 rfl 0 (.slice a4 (n + 1 + q) c4)); have HKB := Lib.hid hkb; clear hb4 hkb hd1 hd2))
    have HF := HB4.out
    simp only [List.set_cons_succ, List.set_cons_zero] at HF
    refine ⟨?_, PO.kc HS.out HF, a4, n + 1 + q, c4, ?_, ?_⟩
    · exact (((((KeepsOthers.alloc W _).trans HKA.out).trans (KeepsOthers.setCell _ _ _)).trans HKB.out).trans (KeepsOthers.setCell _ _ _)).from _
    · rw [HSN.out, List.length_append, List.length_cons, HL.out, HN.out]; omega
    · rw [HSN.out]
      have e : done ++ bs ++ [c] ++ t = done ++ (bs ++ (c :: t)) := by simp
      rw [← e]
      exact HF
end Lz
end Go.Proofs.YtllmogicmimjlaaDoor

end
section
namespace Go.Proofs.YtllmogicmimjlaaDoor
open Go.RowKit Go.Own
namespace Lz
open Go.MatM Go.LzM Byt

def RetYes (w : World) (e : Ending) (w' : World) : Prop := e = .returned (.bool true) ∧ Below w.heap.size w w'

structure Kept (W : World) : Prop where
  pack : ∀ ao n cap l w, Below W.heap.size W w → Given w ao n cap l → n ≤ 10000 → Calls Tryd.prog 6 #[.slice ao n cap] w fun e w' => ∃ v, e = .returned v ∧ Reads (pack l) w v w'
  unpack : ∀ ao n cap p (most : Int) w, Below W.heap.size W w → Given w ao n cap p → n ≤ 20000 → -9223372036854775808 ≤ most → most ≤ 9223372036854775807 →
    Calls Tryd.prog 13 #[.slice ao n cap, .int .i64 most] w (UnDone (unpack p most.toNat) w)
theorem Kept.later {W W' : World} (K : Kept W) (g : Below W.heap.size W W') : Kept W' :=
  ⟨fun ao n cap l w h => K.pack ao n cap l w (g.trans (h.mono g.size)), fun ao n cap p m w h => K.unpack ao n cap p m w (g.trans (h.mono g.size))⟩

/-- a call of Pack, its answer known -/
theorem pack_st {W : World} (K : Kept W) {ao : Option Addr} {n cap : Nat} {l r : Bs} {m : Nat} {w : World} (h : Below W.heap.size W w) (g : Given w ao n cap l) (hn : n ≤ 10000) (hr : pack l = r) (hm : r.length = m) :
    Calls Tryd.prog 6 #[.slice ao n cap] w fun e w' => ∃ a c, e = .returned (.slice a m c) ∧ Given w' a m c r ∧ Below w.heap.size w w' := by
  subst hr hm
  refine (K.pack ao n cap l w h g hn).mono ?_
  rintro e w' ⟨v, rfl, a, c, rfl, h1, h2⟩
  exact ⟨a, c, rfl, h1, h2⟩
theorem unpack_st {W : World} (K : Kept W) {ao : Option Addr} {n cap : Nat} {p r : Bs} {x : Int} {m k : Nat} {w : World} (h : Below W.heap.size W w) (g : Given w ao n cap p) (hn : n ≤ 20000) (h0 : -9223372036854775808 ≤ x) (h1 : x ≤ 9223372036854775807) (hr : unpack p x.toNat = (r, k)) (hm : r.length = m) :
    Calls Tryd.prog 13 #[.slice ao n cap, .int .i64 x] w fun e w' => ∃ a c, e = .returned (.tuple #[.slice a m c, .int .i64 (k : Int)]) ∧ Given w' a m c r ∧ Below w.heap.size w w' := by
  subst hm
  refine (K.unpack ao n cap p x w h g hn h0 h1).mono ?_
  rw [hr]
  rintro e w' ⟨v, rfl, a, c, rfl, h1, h2⟩
  exact ⟨a, c, rfl, h1, h2⟩

end Lz
end Go.Proofs.YtllmogicmimjlaaDoor

end
section
namespace Go.Proofs.YtllmogicmimjlaaDoor
open Go.RowKit Go.Own Go.Maps
namespace Mat

theorem infoInt : (Tryd.prog.info? 3).map (fun i => (i.zero, i.size, i.bytes)) = some (some (.int .i64 0), 1, 8) := by kernel_rfl
/-- a number as a cell -/
def nv (k : Nat) : Value := .int .i64 (k : Int)

/-- a slice of numbers, from some place of a block of one's own on -/
def Slc (w : World) (v : Value) (zs : List Nat) : Prop :=
  (v = .slice none 0 0 ∧ zs = []) ∨ ∃ g o cap cur, v = .slice (some ⟨g, o, none⟩) zs.length cap ∧ w.heap[g]? = some (.cells cur 3 (0, 0)) ∧ zs.length ≤ cap ∧ cap ≤ maxLen ∧ o + cap ≤ cur.size ∧ ∀ j, j < zs.length → cur[o + j]? = some (nv (zs.getD j 0))

section
variable {w w' : World} {v : Value} {zs : List Nat}
theorem Slc.nil (w : World) : Slc w (.slice none 0 0) [] := .inl ⟨rfl, rfl⟩
theorem Slc.lt (h : Slc w v zs) (k : Nat) (hk : v.ownBlock = some k) : k < w.heap.size := by
  rcases h with ⟨rfl, _⟩ | ⟨g, o, cap, cur, rfl, hb, _⟩
  · cases hk
  · simp only [Value.ownBlock, Option.some.injEq] at hk
    subst hk
    exact lt_of_block hb
theorem Slc.same (h : Slc w v zs) (e : ∀ k, v.ownBlock = some k → w'.heap[k]? = w.heap[k]?) : Slc w' v zs := by
  rcases h with h | ⟨g, o, cap, cur, rfl, hb, r⟩
  · exact .inl h
  · exact .inr ⟨g, o, cap, cur, rfl, (e g rfl).trans hb, r⟩
theorem Slc.kept {row : Option Nat} (h : Slc w v zs) (g : w.grownBy w' row) (hne : ∀ k, v.ownBlock = some k → some k ≠ row) : Slc w' v zs :=
  h.same fun k hk => g.block k (h.lt k hk) (hne k hk)
theorem Slc.later (h : Slc w v zs) (g : Below w.heap.size w w') : Slc w' v zs := h.same fun k hk => g.block k (h.lt k hk)
theorem Slc.step {S T : Nat → Prop} (h : Slc w v zs) (g : Step S T w w') (hd : ∀ k, v.ownBlock = some k → ¬ S k) : Slc w' v zs := h.same fun k hk => g.block k (h.lt k hk) (hd k hk)
theorem Slc.form (h : Slc w v zs) : ∃ ao cap, v = .slice ao zs.length cap ∧ zs.length ≤ cap ∧ cap ≤ maxLen ∧ (ao = none → zs = [] ∧ cap = 0) ∧ ∀ a, ao = some a → a.spot = none ∧ ∀ j, j < zs.length → w.cell? ⟨a.block, a.off + j, none⟩ = some (nv (zs.getD j 0)) := by
  rcases h with ⟨rfl, rfl⟩ | ⟨g, o, cap, cur, rfl, hb, h1, h2, _, h3⟩
  · exact ⟨none, 0, rfl, Nat.le_refl _, by unfold maxLen; omega, fun _ => ⟨rfl, rfl⟩, fun a h => by cases h⟩
  · exact ⟨_, cap, rfl, h1, h2, fun h => by (cases h), fun a ha => by cases ha; exact ⟨rfl, fun j hj => cell_of_block hb (h3 j hj)⟩⟩
/-- one of them off -/
theorem Slc.off {g o cap z : Nat} (h : Slc w (.slice (some ⟨g, o, none⟩) (zs.length + 1) cap) (z :: zs)) : Slc w (.slice (some ⟨g, o + 1, none⟩) zs.length (cap - 1)) zs := by
  rcases h with ⟨h, _⟩ | ⟨g', o', cap', cur, hv, hb, h1, h2, h3, h4⟩
  · cases h
  · simp only [Value.slice.injEq, Option.some.injEq, Addr.mk.injEq, and_true] at hv
    obtain ⟨⟨rfl, rfl⟩, _, rfl⟩ := hv
    simp only [List.length_cons] at h1 h4
    refine .inr ⟨g, o + 1, cap - 1, cur, rfl, hb, by omega, by omega, by omega, fun j hj => ?_⟩
    have := h4 (j + 1) (by omega)
    rw [List.getD_cons_succ] at this
    rw [show o + 1 + j = o + (j + 1) by omega]
    exact this
/-- .. as the language has it: where nothing is left behind, the place stays -/
theorem Slc.off' {g o cap z : Nat} (h : Slc w (.slice (some ⟨g, o, none⟩) (zs.length + 1) cap) (z :: zs)) : Slc w (.slice (if cap = 1 then some ⟨g, o, none⟩ else some ⟨g, o + 1, none⟩) zs.length (cap - 1)) zs := by
  by_cases hc : cap = 1
  · rw [if_pos hc]
    rcases h with ⟨h, _⟩ | ⟨g', o', cap', cur, hv, hb, h1, h2, h3, h4⟩
    · cases h
    · simp only [Value.slice.injEq, Option.some.injEq, Addr.mk.injEq, and_true] at hv
      obtain ⟨⟨rfl, rfl⟩, _, rfl⟩ := hv
      simp only [List.length_cons] at h1
      exact .inr ⟨g, o, cap - 1, cur, rfl, hb, by omega, by omega, by omega, fun j hj => by omega⟩
  · rw [if_neg hc]; exact h.off
/-- append(v, x) -/
theorem Slc.append (h : Slc w v zs) (ty : TypeId) (x : Nat) (bo : Addr) (hx : w.cell? bo = some (nv x)) (hbo : bo.spot = none) (b1 : zs.length + 1 ≤ 1000000000) :
    ∃ v' w', (Builtin.append_ #[100, 100] ty #[v, .slice (some bo) 1 1]).run Tryd.prog w = .ok v' w' ∧ Slc w' v' (zs ++ [x]) ∧ w.grownBy w' v.ownBlock ∧ (v'.ownBlock = v.ownBlock ∨ ∃ g, v'.ownBlock = some g ∧ w.heap.size ≤ g) := by
  obtain ⟨i0, hi0, hz0, hz1, hz2⟩ := info_parts infoInt
  have hadd : ∀ (a : Addr) (j : Nat), a.spot = none → a.add j = ⟨a.block, a.off + j, none⟩ := by
    intro a j ha
    obtain ⟨b, o, s⟩ := a
    simp only at ha
    subst ha
    unfold Addr.add
    split <;> simp_all
  have hnews : ∀ j u, [nv x][j]? = some u → w.cell? (bo.add j) = some u := by
    intro j u hu
    match j, hu with
    | 0, hu =>
      simp only [List.getElem?_cons_zero, Option.some.injEq] at hu
      subst hu
      rw [hadd bo 0 hbo, ← hx]
      obtain ⟨b, o, s⟩ := bo
      simp only at hbo
      subst hbo
      rfl
  have row : ∀ {w1 : World} {v1 : Value}, w1.ownsRow w.heap.size 3 1 v1 (zs.length + 1) (zs.map nv ++ [nv x]) → Slc w1 v1 (zs ++ [x]) ∧ ∃ g, v1.ownBlock = some g ∧ w.heap.size ≤ g := by
    intro w1 v1 ho
    rcases ho.2 with ⟨_, h0⟩ | ⟨g, cap, cur, rfl, hg, hb, h1, h2, h3, h4⟩
    · omega
    · refine ⟨.inr ⟨g, 0, cap, cur, by simp, hb, by simpa using h1, h2, by omega, fun j hj => ?_⟩, g, rfl, hg⟩
      rw [List.length_append, List.length_singleton] at hj
      rw [Nat.zero_add]
      have e : (cur.toList.take ((zs.length + 1) * 1))[j]? = (zs.map nv ++ [nv x])[j]? := by rw [h4]
      rw [List.getElem?_take_of_lt (by omega)] at e
      rw [← Array.getElem?_toList, e, show zs.map nv ++ [nv x] = (zs ++ [x]).map nv by simp]
      rw [List.getElem?_map, List.getD_eq_getElem?_getD, List.getElem?_eq_getElem (by simp; omega)]
      rfl
  have small : (zs.length + 1) * 8 ≤ 140737488355328 := by omega
  rcases h with ⟨rfl, rfl⟩ | ⟨g, o, cap, cur, rfl, hb, h1, h2, h3, h4⟩
  · obtain ⟨v', w', hr, r1, r2, _⟩ := run_append_own (P := Tryd.prog) w w.heap.size 100 ty 3 i0 (.int .i64 0) 1 8 Tryd.underlying100 hi0 hz0 hz1 hz2 rfl (by decide) _ 0 [] (World.ownsRow_nil w _ 3 1) bo 1 1 [nv x] rfl hnews (by intro u hu; simp at hu; subst hu; rfl) (by unfold maxLen; omega) (by omega) (Nat.le_refl _)
    obtain ⟨s1, g, s2, s3⟩ := row (v1 := v') (w1 := w') (by simpa using r1)
    exact ⟨v', w', hr, s1, r2, .inr ⟨g, s2, s3⟩⟩
  · have olds : ∀ j u, (zs.map nv)[j]? = some u → w.cell? ((⟨g, o, none⟩ : Addr).add j) = some u := by
      intro j u hu
      have hj := (List.getElem?_eq_some_iff.1 hu).1
      rw [List.length_map] at hj
      rw [hadd _ j rfl, ← hu, cell_of_block hb (h4 j hj), List.getElem?_map, List.getD_eq_getElem?_getD, List.getElem?_eq_getElem hj]
      rfl
    by_cases hroom : zs.length + 1 ≤ cap
    · have hlt : o + zs.length < cur.size := by omega
      have hr := run_append_room_cells (P := Tryd.prog) w 100 ty 3 i0 Tryd.underlying100 hi0 g o zs.length cap bo 1 1 [nv x] (by rw [hz1]; rfl) hnews (by intro u hu; simp at hu; subst hu; rfl) hroom
        (by intro j hj; simp only [List.length_singleton] at hj; obtain rfl : j = 0 := by omega
            rw [hz1, Nat.mul_one, Nat.add_zero, cell_of_block hb (Array.getElem?_eq_getElem hlt)]; rfl)
        (by intro j hj; exact frozen_of_block hb)
      rw [hz1, Nat.mul_one] at hr
      refine ⟨_, _, hr, .inr ⟨g, o, cap, cur.setIfInBounds (o + zs.length) (nv x), by simp, block_setCell hb _, by simpa using hroom, h2, by simpa using h3, fun j hj => ?_⟩, ⟨rfl, rfl, rfl, by simp [World.setCells], fun k _ hk => ?_⟩, .inl rfl⟩
      · rw [List.length_append, List.length_singleton] at hj
        by_cases hj0 : j = zs.length
        · subst hj0
          rw [Array.getElem?_setIfInBounds_self_of_lt hlt, List.getD_eq_getElem?_getD, List.getElem?_append_right (Nat.le_refl _)]
          simp
        · rw [Array.getElem?_setIfInBounds_ne (by omega), h4 j (by omega), List.getD_eq_getElem?_getD, List.getD_eq_getElem?_getD, List.getElem?_append_left (by omega)]
      · show (w.setCell ⟨g, o + zs.length, none⟩ (nv x)).heap[k]? = _
        exact Below.heap_setCell _ _ _ _ (fun e => hk (by rw [e]; rfl))
    · obtain ⟨v', w', hr, r1, r2⟩ := run_append_arg_grows (P := Tryd.prog) w 100 ty 3 i0 (.int .i64 0) 1 8 Tryd.underlying100 hi0 hz0 hz1 hz2 rfl (by decide) ⟨g, o, none⟩ zs.length cap (zs.map nv) (by simp) olds bo 1 1 [nv x] rfl hnews (by omega) (by unfold maxLen; omega) small
      obtain ⟨s1, g1, s2, s3⟩ := row r1
      exact ⟨v', w', hr, s1, ⟨r2.os, r2.tape, r2.output, r2.size, fun k hk _ => r2.block k hk (by simp)⟩, .inr ⟨g1, s2, s3⟩⟩
end

section
variable {B : Nat} {w0 w : World} {Ps : List Asn} {v : Value} {zs : List Nat}
end

/-! ### the key -/
theorem headArr : WideMaps.ArrKey Tryd.prog 103 5 3 := ⟨Tryd.underlying103, by kernel_rfl, by kernel_rfl, by kernel_rfl⟩
theorem headKeyed : Keyed Tryd.prog 103 := Keyed.of_law headArr.law
theorem sizePos : ∃ m, Tryd.prog.types.size = m + 1 := ⟨Tryd.prog.types.size - 1, by kernel_rfl⟩
/-- a head as a value, and as a key -/
def hdV (a b c : UInt8) : Value := .agg #[byteV a, byteV b, byteV c]
def hdL (a b c : UInt8) : Lit := .string (keyBytes [.int .u8 (a.toNat : Int), .int .u8 (b.toNat : Int), .int .u8 (c.toNat : Int)])
theorem u8_wf (a : UInt8) : (Lit.int .u8 (a.toNat : Int)).wf = true := by
  have := a.toNat_lt
  simp [Lit.wf, IntKind.min, IntKind.max, IntKind.signed, IntKind.bits]
  omega
theorem hd_key (a b c : UInt8) : keyOf Tryd.prog 103 (hdV a b c) = some (hdL a b c) := by
  have A := headArr
  have he : Tryd.prog.underlying 5 = some (.int .u8) := Tryd.underlying5
  have hkt := A.keyType sizePos
  obtain ⟨m, hm⟩ := sizePos
  have wa := u8_wf a
  have wb := u8_wf b
  have wc := u8_wf c
  unfold keyOf hdV byteV
  simp only [A.hu]
  rw [if_pos (by simp [hkt, Value.formed, A.hu, A.size]), hm]
  unfold Program.keyLits
  simp only [A.hu, Value.cells]
  rw [if_pos (by rw [A.size]; rfl), show List.range 3 = [0, 1, 2] from rfl, List.mapM_cons, List.mapM_cons, List.mapM_cons, List.mapM_nil]
  simp [A.one, Program.keyLits, he, wa, wb, wc, hdL]
theorem byteV_inj {a b : UInt8} (h : byteV a = byteV b) : a = b := by
  simp only [byteV, Value.int.injEq, true_and] at h
  exact UInt8.toNat_inj.1 (by omega)
theorem hdL_inj {a b c a' b' c' : UInt8} (h : hdL a b c = hdL a' b' c') : a = a' ∧ b = b' ∧ c = c' := by
  have h1 := hd_key a b c
  rw [h] at h1
  have := headKeyed.inj h1 (hd_key a' b' c')
  simp only [hdV, Value.agg.injEq, Array.mk.injEq, List.cons.injEq, and_true] at this
  exact ⟨byteV_inj this.1, byteV_inj this.2.1, byteV_inj this.2.2⟩

/-! ### the map -/
open Classical in
noncomputable def put1 {α : Type} (g : Lit → α) (kl : Lit) (x : α) : Lit → α := fun l => if l = kl then x else g l
theorem put1_same {α : Type} {g : Lit → α} {kl : Lit} {x : α} : put1 g kl x kl = x := by unfold put1; rw [if_pos rfl]
theorem put1_other {α : Type} {g : Lit → α} {kl l : Lit} {x : α} (h : l ≠ kl) : put1 g kl x l = g l := by unfold put1; rw [if_neg h]
def raw : Value → Option (DataW Value × List MemPlace) := fun v => some (.held v, [])
/-- block b is a map of at most n entries; g: the slice at a key; f: the numbers of that slice; no two keys' slices lie in one block -/
def AG (b n : Nat) (g : Lit → Value) (f : Lit → List Nat) : Asn where
  holds S w := (∃ D : DataW Value, w.ownsMap Tryd.prog 103 raw b n D ∧ ∀ kl, D.atKey kl (.held (.slice none 0 0)) = .held (g kl)) ∧ (∀ kl, Slc w (g kl) (f kl)) ∧
    (∀ kl kl' k, kl ≠ kl' → (g kl).ownBlock = some k → (g kl').ownBlock ≠ some k) ∧ (∀ kl, (g kl).ownBlock ≠ some b) ∧ ∀ k, S k ↔ (k = b ∨ ∃ kl, (g kl).ownBlock = some k)
  keep h gs hd := by
    obtain ⟨⟨D, ⟨es, clock, hb, r⟩, h1⟩, h2, h3, h4, h5⟩ := h
    exact ⟨⟨D, ⟨es, clock, (gs.block _ (lt_of_block hb) (hd _ ((h5 _).2 (.inl rfl)))).trans hb, r⟩, h1⟩, fun kl => (h2 kl).step gs (fun k hk => hd k ((h5 k).2 (.inr ⟨kl, hk⟩))), h3, h4, h5⟩
  lt h k hk := by
    obtain ⟨⟨D, hm, h1⟩, h2, h3, h4, h5⟩ := h
    rcases (h5 k).1 hk with rfl | ⟨kl, hk⟩
    · exact hm.lt
    · exact (h2 kl).lt k hk
section
variable {B : Nat} {w0 w : World} {Ps : List Asn} {b n : Nat} {g : Lit → Value} {f : Lit → List Nat}
/-- make(map[head][]int) -/
theorem ag_made (H : St B w0 w Ps) : St B w0 (w.alloc (.map #[] 0)) (AG w.heap.size 0 (fun _ => .slice none 0 0) (fun _ => []) :: Ps) := by
  refine H.new (S' := fun k => k = w.heap.size) (AG _ 0 _ _) ⟨⟨.map [], World.ownsMap_made w _ _ _, fun kl => rfl⟩, fun kl => Slc.nil _, fun kl kl' k _ h => by (cases h), fun kl h => by (cases h), fun k => ?_⟩ (((Step.refl (fun _ => False) w).alloc (.map #[] 0)).to (fun k hk => .inr (Nat.le_of_eq hk.symm)))
  exact ⟨.inl, fun h => h.elim id (fun ⟨_, h⟩ => by cases h)⟩
theorem ag_slc (H : St B w0 w Ps) (i : Nat) (hi : Ps[i]? = some (AG b n g f)) (kl : Lit) : Slc w (g kl) (f kl) := by
  obtain ⟨S, hS, _⟩ := H.at i hi
  exact hS.2.1 kl
/-- m[k] -/
theorem ag_look (H : St B w0 w Ps) (i : Nat) (hi : Ps[i]? = some (AG b n g f)) (x y z : UInt8) :
    (Instr.lookup 98 (.map (some b)) (hdV x y z) false).run Tryd.prog w = .ok (g (hdL x y z)) w := by
  obtain ⟨S, ⟨⟨D, hm, h1⟩, _⟩, _⟩ := H.at i hi
  have hz : (zeroValue 100).run Tryd.prog w = .ok (.slice none 0 0) w := by kernel_rfl
  obtain ⟨v, ps, hrun, hv⟩ := hm.lookup headKeyed Tryd.underlying98 hz (zd := .held (.slice none 0 0)) (zp := []) rfl (hd_key x y z)
  rw [h1] at hv
  simp only [raw, Option.some.injEq, Prod.mk.injEq, DataW.held.injEq] at hv
  rw [hrun, hv.1]
/-- m[k] = append(what is left of m[k], x) -/
theorem ag_push (H : St B w0 w Ps) (i : Nat) (hi : Ps[i]? = some (AG b n g f)) (p q r : UInt8) (ty : TypeId) (v : Value) (zs : List Nat) (hv : Slc w v zs) (hvb : v.ownBlock = (g (hdL p q r)).ownBlock) (hn : n < 1000000000)
    (x : Nat) (bo : Addr) (hx : w.cell? bo = some (nv x)) (hbo : bo.spot = none) (b1 : zs.length + 1 ≤ 1000000000) :
    ∃ v' w1, (Builtin.append_ #[100, 100] ty #[v, .slice (some bo) 1 1]).run Tryd.prog w = .ok v' w1 ∧
      ∃ w2 g', (Instr.mapUpdate 98 (.map (some b)) (hdV p q r) v').run Tryd.prog w1 = .ok () w2 ∧
        St B w0 w2 (Ps.set i (AG b (n + 1) g' (put1 f (hdL p q r) (zs ++ [x])))) := by
  obtain ⟨kl, hkl⟩ : ∃ kl, kl = hdL p q r := ⟨_, rfl⟩
  rw [← hkl] at hvb ⊢
  obtain ⟨S, ⟨⟨D, hm, h1⟩, h2, h3, h4, h5⟩, _, put⟩ := H.at i hi
  obtain ⟨v', w1, hrun, r1, r2, r3⟩ := hv.append ty x bo hx hbo b1
  have hm1 : w1.ownsMap Tryd.prog 103 raw b n D := hm.kept r2 (fun e => h4 kl (by rw [← hvb, ← e]))
  have hkey : keyOf Tryd.prog 103 (hdV p q r) = some kl := by rw [hkl]; exact hd_key p q r
  obtain ⟨w2, hrun2, hm2, g2⟩ := hm1.update headKeyed Tryd.underlying98 (by unfold maxLen; omega) hkey (val := v') (d := .held v') (ps := []) rfl
  have hbw := hm.lt
  -- the new slice lies apart from the map and from the others
  have nb : v'.ownBlock ≠ some b := by
    rcases r3 with r3 | ⟨k, r3, r4⟩
    · rw [r3, hvb]; exact h4 kl
    · rw [r3]; intro e; cases e; omega
  have apart : ∀ l k, l ≠ kl → (g l).ownBlock = some k → v'.ownBlock ≠ some k := by
    intro l k hl hk
    rcases r3 with r3 | ⟨k', r3, r4⟩
    · rw [r3, hvb]; exact h3 l kl k hl hk
    · rw [r3]; intro e; cases e
      have := (h2 l).lt k hk
      omega
  have hD : IsMap D := by obtain ⟨es, clock, _, _, _, hD⟩ := hm; exact ⟨_, hD⟩
  refine ⟨v', w1, hrun, w2, put1 g kl v', hrun2, put (fun k => k = b ∨ ∃ l, (put1 g kl v' l).ownBlock = some k) w2 (AG b (n + 1) _ _) ⟨⟨_, hm2, fun l => ?_⟩, fun l => ?_, fun l l' k hne hk => ?_, fun l => ?_, fun k => Iff.rfl⟩ ?_⟩
  · by_cases hl : l = kl
    · subst hl
      rw [put1_same]
      exact atKey_put_same hD (headKeyed.key hkey) _ _
    · rw [put1_other hl, atKey_put_other hl]
      exact h1 l
  · by_cases hl : l = kl
    · subst hl
      rw [put1_same, put1_same]
      exact r1.kept g2 (fun k hk e => nb (by rw [hk, e]))
    · rw [put1_other hl, put1_other hl]
      refine ((h2 l).kept r2 (fun k hk e => ?_)).kept g2 (fun k hk e => h4 l (by rw [hk, e]))
      rw [hvb] at e
      exact h3 l kl k hl hk e.symm
  · by_cases hl : l = kl
    · by_cases hl' : l' = kl
      · exact absurd (hl.trans hl'.symm) hne
      · rw [hl, put1_same] at hk
        rw [put1_other hl']
        exact fun e => apart l' k hl' e hk
    · rw [put1_other hl] at hk
      by_cases hl' : l' = kl
      · subst hl'; rw [put1_same]
        exact apart l k hl hk
      · rw [put1_other hl']
        exact h3 l l' k hne hk
  · by_cases hl : l = kl
    · subst hl; rw [put1_same]; exact nb
    · rw [put1_other hl]; exact h4 l
  · have hs := r2.size
    refine ⟨g2.os.trans r2.os, g2.tape.trans r2.tape, g2.output.trans r2.output, Nat.le_trans hs g2.size, fun k hk hn => ?_, fun k hk => ?_⟩
    · rw [g2.block k (by omega) (fun e => hn ((h5 k).2 (.inl (by cases e; rfl)))), r2.block k hk (fun e => hn ((h5 k).2 (.inr ⟨kl, by rw [← hvb]; exact e.symm⟩)))]
    · rcases hk with rfl | ⟨l, hk⟩
      · exact .inl ((h5 _).2 (.inl rfl))
      · by_cases hl : l = kl
        · rw [hl, put1_same] at hk
          rcases r3 with r3 | ⟨k', r3, r4⟩
          · exact .inl ((h5 k).2 (.inr ⟨kl, by rw [← hvb, ← r3]; exact hk⟩))
          · rw [r3] at hk
            cases hk
            exact .inr r4
        · rw [put1_other hl] at hk
          exact .inl ((h5 k).2 (.inr ⟨l, hk⟩))
end
/-- the two operations, for a walk -/
theorem wpList_app {ops : Array Oper} {rest : List Oper} {o : Oper} {a : Act} {w : World} {Q : Exit → Act → World → Prop} (hgd : o.guard = none) (s x : Operand)
    (ho : o.op = .call { callee := .builtin .append, args := #[s, x], argTypes := #[100, 100] }) (v : Value) (bo : Addr) (hs : a.eval s = v) (hx : a.eval x = .slice (some bo) 1 1) (v' : Value) (w1 : World)
    (hrun : (Builtin.append_ #[100, 100] o.type #[v, .slice (some bo) 1 1]).run Tryd.prog w = .ok v' w1) (h : wpList Tryd.prog ops Q rest (a.put o.dst v') w1) : wpList Tryd.prog ops Q (o :: rest) a w := by
  refine wpList_plain hgd fun K hK => ?_
  unfold Oper.wp
  simp [execOp, ho, resolve, invoke, builtin, hs, hx, hrun, Result.andThen]
  exact hK _ _ h
end Mat
end Go.Proofs.YtllmogicmimjlaaDoor

end
section
namespace Go.Proofs.YtllmogicmimjlaaDoor
open Go.RowKit Go.Own Go.Shelf
attribute [local go_sem] Oper.semAt_some
namespace Mat

/-- the places that have come when k rounds are over: from the last one on -/
def come (n k : Nat) : List (Fin n) := (List.finRange n).reverse.take k
theorem come_succ (n k : Nat) (h : k < n) : come n (k + 1) = come n k ++ [⟨n - 1 - k, by omega⟩] := by
  unfold come
  rw [List.take_add_one, List.getElem?_reverse (by simpa using h)]
  simp
  rw [List.getElem?_eq_getElem (by simp; omega)]
  simp
theorem come_length (n k : Nat) (h : k ≤ n) : (come n k).length = k := by simp [come, h]
theorem come_map (zs : List Nat) (k : Nat) : (come zs.length k).map (fun i => zs.getD i.1 0) = zs.reverse.take k := by
  unfold come
  rw [List.map_take, List.map_reverse]
  congr 2
  apply List.ext_getElem
  · simp
  · intro i h1 h2
    simp [List.getD]

/-- what a round keeps: all that lay below n₀, and the box of the slice -/
def KB (n₀ Bs : Nat) (W W' : World) : Prop := Below n₀ W W' ∧ W'.heap[Bs]? = W.heap[Bs]?
theorem KB.refl (n₀ Bs : Nat) (W : World) : KB n₀ Bs W W := ⟨Below.refl _ _, rfl⟩
theorem KB.trans {n₀ Bs : Nat} {A B C : World} (h : KB n₀ Bs A B) (k : KB n₀ Bs B C) : KB n₀ Bs A C := ⟨h.1.trans k.1, k.2.trans h.2⟩
theorem KB.box {n₀ Bs : Nat} {A B : World} (h : KB n₀ Bs A B) {v : Value} (hc : A.cell? ⟨Bs, 0, none⟩ = some v) : B.cell? ⟨Bs, 0, none⟩ = some v := by
  rw [← hc]; unfold World.cell?; simp only [h.2]

set_option maxRecDepth 100000 in
set_option maxHeartbeats 2000000 in
/-- the closure of slices.Backward: from the last one on -/
theorem back1_in (F : Fence) (n : Nat) (h24 : F.fn 66) (hro : F.round = none) (hn : 1 ≤ n) (l Bs n₀ b off len cap : Nat) (z : Nat → Nat) (hreach : len ≤ 1000000000) (hb : b < n₀) (J Jx : List (Fin len) → World → Prop)
    (hY : ∀ pre x W, J pre W → pre.length < len → YieldAt F (n - 1) Tryd.prog l #[.int .i64 (x.1 : Int), .int .i64 (z x.1 : Int)] W fun e W' =>
      (e = .returned (.bool true) ∧ J (pre ++ [x]) W' ∧ KB n₀ Bs W W') ∨ (e = .returned (.bool false) ∧ Jx (pre ++ [x]) W'))
    (W : World) (hBs : W.cell? ⟨Bs, 0, none⟩ = some (.slice (some ⟨b, off, none⟩) len cap)) (hc : ∀ j, j < len → W.cell? ⟨b, off + j, none⟩ = some (.int .i64 (z j : Int))) (h0 : J [] W) :
    CallsIn F n Tryd.prog 66 #[.func (.yield l) #[] #[], .pointer (some ⟨Bs, 0, none⟩)] W fun e W' => (∃ v, e = .returned v) ∧
      ((∃ ys, ys = come len len ∧ J ys W') ∨ (∃ pre, (∃ k, k ≤ len ∧ pre = come len k) ∧ Jx pre W')) := by
  refine callsIn_of_wp Tryd.func66 rfl h24 ?_ hro
  simp only [Tryd.ntmps66, List.size_toArray, List.length_cons, List.length_nil, Nat.reduceAdd, Nat.reduceSub, Array.replicate_succ, Array.replicate_zero, List.push_toArray, List.append_toArray, List.nil_append, List.cons_append]
  gi_wp2
  gi_loopw [3] (fun i wr => ∃ k : Nat, k ≤ len ∧ i = .int .i64 ((len : Int) - 1 - (k : Int)) ∧ J (come len k) wr ∧ KB n₀ Bs W wr)
    (fun i _ => (intOf i + 1).toNat)
  case atStart => exact ⟨0, Nat.zero_le _, by simp, h0, KB.refl _ _ _⟩
  case round =>
    obtain ⟨k, hk, rfl, hJs, hnx⟩ := hrel
    have hBr := hnx.box hBs
    by_cases hlt : k < len
    · obtain ⟨i, hi⟩ : ∃ i, i = len - 1 - k := ⟨_, rfl⟩
      have hil : i < len := by omega
      have hcx : wr.cell? ⟨b, off + i, none⟩ = some (.int .i64 (z i : Int)) := (hnx.1.cell (p := ⟨b, off + i, none⟩) hb).trans (hc i hil)
      obtain ⟨fn, tmps, assign, body, hy, hR⟩ := hY _ ⟨i, hil⟩ wr hJs (by rw [come_length _ _ hk]; exact hlt)
      dsimp only at hy
      rw [show (len : Int) - 1 - (k : Int) = (i : Int) by omega]
      have hib : i ≤ 1000000000 := by omega
      have hid := Lib.hid hi
      clear hi
      gi_wp2
      refine hR.mono ?_
      rintro e W3 (⟨rfl, hJ3, hk3⟩ | ⟨rfl, hJx3⟩)
      · gi_wp2
        go_roundw
        case rel => exact ⟨k + 1, by omega, by have := hid.out; congr 1; omega, by rw [come_succ _ _ hlt]; have e : (⟨len - 1 - k, by omega⟩ : Fin len) = ⟨i, hil⟩ := Fin.ext hid.out.symm; rw [e]; exact hJ3, hnx.trans hk3⟩
        case measure => simp [intOf]
      · gi_wp2
        refine bodyPost_ret (results_none rfl _ _ _) rfl ?_
        exact ⟨⟨_, rfl⟩, .inr ⟨_, ⟨k + 1, by omega, by rw [come_succ _ _ hlt]; congr 2; exact Fin.ext hid.out⟩, hJx3⟩⟩
    · obtain rfl : k = len := by omega
      rw [show (k : Int) - 1 - (k : Int) = -1 by omega]
      gi_wp2
      go_end0
      exact ⟨⟨_, rfl⟩, .inl ⟨_, rfl, hJs⟩⟩

set_option maxRecDepth 100000 in
set_option maxHeartbeats 1000000 in
/-- .. at the nil slice: no round. -/
theorem back1_nil_in (F : Fence) (n : Nat) (h24 : F.fn 66) (hro : F.round = none) (l Bs : Nat) (J : List (Fin 0) → World → Prop) (W : World) (hBs : W.cell? ⟨Bs, 0, none⟩ = some (.slice none 0 0)) (h0 : J [] W) :
    CallsIn F n Tryd.prog 66 #[.func (.yield l) #[] #[], .pointer (some ⟨Bs, 0, none⟩)] W fun e W' => (∃ v, e = .returned v) ∧ J [] W' := by
  refine callsIn_of_wp Tryd.func66 rfl h24 ?_ hro
  simp only [Tryd.ntmps66, List.size_toArray, List.length_cons, List.length_nil, Nat.reduceAdd, Nat.reduceSub, Array.replicate_succ, Array.replicate_zero, List.push_toArray, List.append_toArray, List.nil_append, List.cons_append]
  gi_wp2
  gi_loopw [3] (fun i wr => i = .int .i64 (-1) ∧ J [] wr) (fun _ _ => 0)
  case atStart => exact ⟨rfl, h0⟩
  case round =>
    obtain ⟨rfl, hJs⟩ := hrel
    gi_wp2
    go_end0
    exact ⟨⟨_, rfl⟩, hJs⟩

set_option maxHeartbeats 1000000 in
/-- slices.Backward(s): the slice value is boxed; the function value captures the box. -/
theorem back_in (F : Fence) (n : Nat) (h23 : F.fn 58) (hro : F.round = none) (a : Option Addr) (len cap : Nat) (w : World) :
    CallsIn F n Tryd.prog 58 #[.slice a len cap] w fun e w' => e = .returned (.func (.func 66) #[] #[.pointer (some ⟨w.heap.size, 0, none⟩)]) ∧ w' = w.alloc (.cells #[.slice a len cap] 100) := by
  refine callsIn_of_wp Tryd.func58 rfl h23 ?_ hro
  simp only [Tryd.ntmps58, List.size_toArray, List.length_cons, List.length_nil, Nat.reduceAdd, Nat.reduceSub, Array.replicate_succ, Array.replicate_zero, List.push_toArray, List.append_toArray, List.nil_append, List.cons_append]
  gi_wp2
  go_ret
  exact ⟨rfl, rfl⟩

/-- slices.Backward(s) hands back a value that stops: all of zs, from the last on; or a first part of that -/
theorem back_stops (F : Fence) (n : Nat) (h24 : F.fn 66) (hro : F.round = none) (hn : 1 ≤ n) (Bs n₀ : Nat) (v : Value) (zs : List Nat) (hreach : zs.length ≤ 1000000000) (w : World) (hBs : Bs < w.heap.size) (hn₀ : n₀ ≤ w.heap.size)
    (hc : w.cell? ⟨Bs, 0, none⟩ = some v) (hI : Slc w v zs) (hv : ∀ k, v.ownBlock = some k → k < n₀) :
    SeqStopsK F n Tryd.prog 66 #[.pointer (some ⟨Bs, 0, none⟩)] (fun x : Fin zs.length => #[Value.int .i64 (x.1 : Int), Value.int .i64 (zs.getD x.1 0 : Int)]) (KB n₀ Bs) (fun ys => ys.map (fun i => zs.getD i.1 0) = zs.reverse)
      (fun pre => ∃ k, k ≤ zs.length ∧ pre.map (fun i => zs.getD i.1 0) = zs.reverse.take k) zs.length w := fun l J Jx W hW _ _ hY h0 => by
  have hc' := (hW.cell (p := ⟨Bs, 0, none⟩) hBs).trans hc
  rcases hI.later hW with ⟨rfl, rfl⟩ | ⟨b, off, cap, cur, rfl, hb, h1, h2, h3, h4⟩
  · exact (back1_nil_in F n h24 hro l Bs J W hc' h0).mono fun e W' ⟨he, hj⟩ => ⟨he, .inl ⟨_, rfl, hj⟩⟩
  · refine (back1_in F n h24 hro hn l Bs n₀ b off zs.length cap (fun j => zs.getD j 0) hreach (hv b rfl) J Jx hY W hc' (fun j hj => cell_of_block hb (h4 j hj)) h0).mono ?_
    rintro e W' ⟨he, ⟨ys, rfl, hj⟩ | ⟨pre, ⟨k, hk, rfl⟩, hj⟩⟩
    · exact ⟨he, .inl ⟨_, (come_map zs _).trans (List.take_of_length_le (by simp)), hj⟩⟩
    · exact ⟨he, .inr ⟨_, ⟨k, hk, come_map zs k⟩, hj⟩⟩
end Mat
end Go.Proofs.YtllmogicmimjlaaDoor

end
section
namespace Go.MatM

/-- the first three bytes from a place on -/
def hd (b : Bs) (k : Nat) : List UInt8 := [by' b k, by' b (k + 1), by' b (k + 2)]
theorem com_self (b : Bs) (at' k : Nat) : com b k at' ≤ com b at' at' := by
  refine com_ge b at' at' _ (com_le b k at') fun j hj => ?_
  have := com_same b k at' j hj
  exact ⟨this.2.1, this.2.1, rfl⟩
theorem com_hd (b : Bs) (k at' : Nat) (hk : k < at') (hl : at' + 3 ≤ b.length) : 3 ≤ com b k at' ↔ hd b k = hd b at' := by
  constructor
  · intro h
    have h0 := com_same b k at' 0 (by omega)
    have h1 := com_same b k at' 1 (by omega)
    have h2 := com_same b k at' 2 (by omega)
    unfold hd
    simp only [Nat.add_zero] at h0
    rw [h0.2.2, h1.2.2, h2.2.2]
  · intro h
    unfold hd at h
    simp only [List.cons.injEq, and_true] at h
    obtain ⟨e0, e1, e2⟩ := h
    refine com_ge b k at' 3 (by omega) fun j hj => ⟨by omega, by omega, ?_⟩
    match j, hj with
    | 0, _ => exact e0
    | 1, _ => exact e1
    | 2, _ => exact e2

/-- one start more -/
def pstep (b : Bs) (at' : Nat) (s : Nat × Nat) (k : Nat) : Nat × Nat := if s.2 < com b k at' then (at' - k, com b k at') else s
def pick' (b : Bs) (at' : Nat) (rs : List Nat) : Nat × Nat := rs.foldl (pstep b at') (0, 0)
theorem pick_snoc (b : Bs) (at' : Nat) (rs : List Nat) (k : Nat) : pick' b at' (rs ++ [k]) = pstep b at' (pick' b at' rs) k := by simp [pick']
theorem pstep_full (b : Bs) (at' : Nat) (s : Nat × Nat) (k : Nat) (h : s.2 = com b at' at') : pstep b at' s k = s := by
  unfold pstep
  rw [if_neg (by have := com_self b at' k; omega)]
theorem pick_full (b : Bs) (at' : Nat) (rs qs : List Nat) (h : (pick' b at' rs).2 = com b at' at') : pick' b at' (rs ++ qs) = pick' b at' rs := by
  induction qs generalizing rs with
  | nil => simp
  | cons q qs ih =>
    have e : rs ++ q :: qs = (rs ++ [q]) ++ qs := by simp
    have e2 : pick' b at' (rs ++ [q]) = pick' b at' rs := by rw [pick_snoc, pstep_full b at' _ q h]
    rw [e, ih _ (by rw [e2]; exact h), e2]
theorem pick_le (b : Bs) (at' : Nat) (rs : List Nat) : (∀ k ∈ rs, k < at') → (pick' b at' rs).1 ≤ at' ∧ (pick' b at' rs).2 ≤ 130 := by
  intro _
  have : ∀ (rs : List Nat) (s : Nat × Nat), s.1 ≤ at' → s.2 ≤ 130 → (rs.foldl (pstep b at') s).1 ≤ at' ∧ (rs.foldl (pstep b at') s).2 ≤ 130 := by
    intro rs
    induction rs with
    | nil => intro s h1 h2; exact ⟨h1, h2⟩
    | cons r rs ih =>
      intro s h1 h2
      simp only [List.foldl_cons]
      refine ih _ ?_ ?_
      · unfold pstep; split
        · simp only; omega
        · exact h1
      · unfold pstep; split
        · exact com_le b r at'
        · exact h2
  exact this rs (0, 0) (by simp) (by simp)

/-- the places from lo to hi - 1 that have this head -/
def occ (b : Bs) (h : List UInt8) (lo hi : Nat) : List Nat := (List.range' lo (hi - lo)).filter (fun k => hd b k = h)
theorem occ_empty (b : Bs) (h : List UInt8) (lo : Nat) : occ b h lo lo = [] := by simp [occ]
theorem occ_succ (b : Bs) (h : List UInt8) (lo hi : Nat) (hl : lo ≤ hi) : occ b h lo (hi + 1) = occ b h lo hi ++ (if hd b hi = h then [hi] else []) := by
  unfold occ
  rw [show hi + 1 - lo = (hi - lo) + 1 by omega, List.range'_concat, List.filter_append, show lo + 1 * (hi - lo) = hi by omega]
  congr 1
  by_cases e : hd b hi = h <;> simp [e]
theorem occ_mem (b : Bs) (h : List UInt8) (lo hi k : Nat) : k ∈ occ b h lo hi ↔ lo ≤ k ∧ k < hi ∧ hd b k = h := by
  unfold occ
  simp only [List.mem_filter, List.mem_range'_1, decide_eq_true_eq]
  exact ⟨fun ⟨⟨h1, h2⟩, h3⟩ => ⟨h1, by omega, h3⟩, fun ⟨h1, h2, h3⟩ => ⟨⟨h1, by omega⟩, h3⟩⟩
theorem occ_len (b : Bs) (h : List UInt8) (lo hi : Nat) : (occ b h lo hi).length ≤ hi - lo := by
  unfold occ
  exact Nat.le_trans (List.length_filter_le _ _) (by simp)
/-- the first of them, and those behind it -/
theorem occ_cons (b : Bs) (h : List UInt8) (lo hi : Nat) (z : Nat) (zs : List Nat) (e : occ b h lo hi = z :: zs) : zs = occ b h (z + 1) hi ∧ lo ≤ z ∧ z < hi := by
  have hz : z ∈ occ b h lo hi := by rw [e]; exact List.mem_cons_self ..
  obtain ⟨h1, h2, h3⟩ := (occ_mem b h lo hi z).1 hz
  refine ⟨?_, h1, h2⟩
  -- split the range at z
  have hsplit : List.range' lo (hi - lo) = List.range' lo (z - lo) ++ (z :: List.range' (z + 1) (hi - (z + 1))) := by
    have e1 : List.range' lo (hi - lo) = List.range' lo (z - lo) ++ List.range' z (hi - z) := by
      have := @List.range'_append_1 lo (z - lo) (hi - z)
      rw [show lo + (z - lo) = z by omega, show z - lo + (hi - z) = hi - lo by omega] at this
      exact this.symm
    rw [e1, show hi - z = (hi - (z + 1)) + 1 by omega, List.range'_succ]
  have hnone : (List.range' lo (z - lo)).filter (fun k => hd b k = h) = [] := by
    rw [List.filter_eq_nil_iff]
    intro k hk hkh
    rw [List.mem_range'_1] at hk
    have hk2 : k ∈ occ b h lo hi := (occ_mem b h lo hi k).2 ⟨hk.1, by omega, by simpa using hkh⟩
    -- the list is rising: its head is its least
    have hr : (occ b h lo hi).Pairwise (· < ·) := List.Pairwise.filter _ List.pairwise_lt_range'
    rw [e] at hr hk2
    have hle := (List.pairwise_cons.1 hr).1
    rcases List.mem_cons.1 hk2 with rfl | hk3
    · omega
    · have := hle k hk3; omega
  have e2 := e
  unfold occ at e2
  rw [hsplit, List.filter_append, hnone, List.nil_append, List.filter_cons_of_pos (by simpa using h3)] at e2
  unfold occ
  exact ((List.cons.inj e2).2).symm
/-- nothing is lost if what lies ahead has another head -/
theorem occ_from (b : Bs) (h : List UInt8) (lo lo' hi : Nat) (h1 : lo ≤ lo') (h2 : ∀ k, lo ≤ k → k < lo' → hd b k ≠ h) (h3 : lo' ≤ hi) : occ b h lo hi = occ b h lo' hi := by
  unfold occ
  have e1 : List.range' lo (hi - lo) = List.range' lo (lo' - lo) ++ List.range' lo' (hi - lo') := by
    have := @List.range'_append_1 lo (lo' - lo) (hi - lo')
    rw [show lo + (lo' - lo) = lo' by omega, show lo' - lo + (hi - lo') = hi - lo by omega] at this
    exact this.symm
  rw [e1, List.filter_append]
  have : (List.range' lo (lo' - lo)).filter (fun k => hd b k = h) = [] := by
    rw [List.filter_eq_nil_iff]
    intro k hk hkh
    rw [List.mem_range'_1] at hk
    exact h2 k hk.1 (by omega) (by simpa using hkh)
  rw [this, List.nil_append]
/-- the first of them is near, so all are -/
theorem occ_near (b : Bs) (h : List UInt8) (lo lo' hi z : Nat) (zs : List Nat) (e : occ b h lo hi = z :: zs) (h1 : lo ≤ lo') (h2 : lo' ≤ z) : occ b h lo hi = occ b h lo' hi := by
  obtain ⟨_, g1, g2⟩ := occ_cons b h lo hi z zs e
  refine occ_from b h lo lo' hi h1 (fun k hk1 hk2 hk3 => ?_) (by omega)
  have hm : k ∈ occ b h lo hi := (occ_mem b h lo hi k).2 ⟨hk1, by omega, hk3⟩
  have hr : (occ b h lo hi).Pairwise (· < ·) := List.Pairwise.filter _ List.pairwise_lt_range'
  rw [e] at hr hm
  rcases List.mem_cons.1 hm with rfl | hm
  · omega
  · have := (List.pairwise_cons.1 hr).1 k hm; omega
theorem occ_none (b : Bs) (h : List UInt8) (lo lo' hi : Nat) (e : occ b h lo hi = []) (h1 : lo ≤ lo') : occ b h lo' hi = [] := by
  refine List.eq_nil_iff_forall_not_mem.2 fun k hk => ?_
  obtain ⟨g1, g2, g3⟩ := (occ_mem b h lo' hi k).1 hk
  have : k ∈ occ b h lo hi := (occ_mem b h lo hi k).2 ⟨by omega, g2, g3⟩
  rw [e] at this
  cases this

/-- the near places that have the same head -/
def near (b : Bs) (at' : Nat) : List Nat := occ b (hd b at') (at' - 256) at'
theorem near_lt (b : Bs) (at' k : Nat) (h : k ∈ near b at') : k < at' := ((occ_mem _ _ _ _ _).1 h).2.1
theorem near_len (b : Bs) (at' : Nat) : (near b at').length ≤ 256 := by
  have := occ_len b (hd b at') (at' - 256) at'
  unfold near
  omega

def nearD (b : Bs) (at' D : Nat) : List Nat := ((List.range D).map (fun d => at' - (d + 1))).filter (fun k => hd b k = hd b at')
theorem nearD_succ (b : Bs) (at' D : Nat) : nearD b at' (D + 1) = nearD b at' D ++ (if hd b (at' - (D + 1)) = hd b at' then [at' - (D + 1)] else []) := by
  unfold nearD
  rw [List.range_succ, List.map_append, List.filter_append]
  congr 1
  by_cases e : hd b (at' - (D + 1)) = hd b at' <;> simp [e]
theorem best_succ (b : Bs) (at' D : Nat) : best b at' (D + 1) = if (best b at' D).2 < com b (at' - (D + 1)) at' then (D + 1, com b (at' - (D + 1)) at') else best b at' D := rfl
theorem pick_best (b : Bs) (at' D : Nat) (hl : at' + 3 ≤ b.length) (hD : D ≤ at') : pick' b at' (nearD b at' D) = if (best b at' D).2 < 3 then (0, 0) else best b at' D := by
  induction D with
  | zero => simp [nearD, pick', best]
  | succ D ih =>
    have ih := ih (by omega)
    have hc := com_hd b (at' - (D + 1)) at' (by omega) hl
    rw [nearD_succ]
    by_cases e : hd b (at' - (D + 1)) = hd b at'
    · have h3 := hc.2 e
      rw [if_pos e, pick_snoc, ih]
      rw [best_succ]
      by_cases hb : (best b at' D).2 < 3
      · rw [if_pos hb]
        have hlt : (best b at' D).2 < com b (at' - (D + 1)) at' := by omega
        rw [if_pos hlt, if_neg (show ¬ (D + 1, com b (at' - (D + 1)) at').2 < 3 by simp only; omega)]
        unfold pstep
        rw [if_pos (show ((0, 0) : Nat × Nat).2 < com b (at' - (D + 1)) at' by simp only; omega), show at' - (at' - (D + 1)) = D + 1 by omega]
      · rw [if_neg hb]
        unfold pstep
        by_cases hlt : (best b at' D).2 < com b (at' - (D + 1)) at'
        · rw [if_pos hlt, if_pos hlt, if_neg (show ¬ (D + 1, com b (at' - (D + 1)) at').2 < 3 by simp only; omega), show at' - (at' - (D + 1)) = D + 1 by omega]
        · rw [if_neg hlt, if_neg hlt, if_neg hb]
    · have h3 : ¬ 3 ≤ com b (at' - (D + 1)) at' := fun h => e (hc.1 h)
      rw [if_neg e, List.append_nil, ih]
      rw [best_succ]
      by_cases hlt : (best b at' D).2 < com b (at' - (D + 1)) at'
      · rw [if_pos hlt, if_pos (by omega), if_pos (show (D + 1, com b (at' - (D + 1)) at').2 < 3 by simp only; omega)]
      · rw [if_neg hlt]
theorem near_rev (b : Bs) (at' : Nat) : (near b at').reverse = nearD b at' (min 256 at') := by
  unfold near occ nearD
  have e : (List.range' (at' - 256) (at' - (at' - 256))).reverse = (List.range (min 256 at')).map (fun d => at' - (d + 1)) := by
    rw [List.reverse_range', show at' - (at' - 256) = min 256 at' by omega]
    refine List.map_congr_left fun d hd => ?_
    rw [List.mem_range] at hd
    omega
  rw [← List.filter_reverse, e]
/-- THE LONGEST MATCH, OUT OF THE NEAR PLACES WITH THE SAME HEAD -/
theorem pick_near (b : Bs) (at' : Nat) (hl : at' + 3 ≤ b.length) : pick' b at' (near b at').reverse = longest b at' := by
  rw [near_rev, pick_best b at' _ hl (by omega)]
  have e : dmax b at' = min 256 at' := by unfold dmax; rw [if_pos (show at' < b.length by omega)]
  unfold longest
  rw [e]
theorem best_short (b : Bs) (at' D : Nat) (hl : b.length < at' + 3) : (best b at' D).2 < 3 := by
  rcases Nat.eq_zero_or_pos (best b at' D).2 with h | h
  · omega
  · obtain ⟨a1, a2, a3, _⟩ := best_is b at' D h
    rcases Nat.lt_or_ge (best b at' D).2 3 with h3 | h3
    · exact h3
    · have := com_same b (at' - (best b at' D).1) at' 2 (by omega); omega
theorem longest_short (b : Bs) (at' : Nat) (hl : b.length < at' + 3) : longest b at' = (0, 0) := by
  unfold longest
  rw [if_pos (best_short b at' _ hl)]
end Go.MatM

end
