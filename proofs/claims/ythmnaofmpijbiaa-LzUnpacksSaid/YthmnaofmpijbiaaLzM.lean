/- The mathematics of layer 6: what bytes are packed into, how that is unpacked, and that it comes back. -/
import Derived.Test.YthmnaofmpijbiaaMatM
namespace Go.LzM
open Go.MatM

/-- plain bytes, at most 128 at a time -/
def plainF : Nat → Bs → Bs
  | 0, _ => []
  | f + 1, l => if l.length = 0 then [] else UInt8.ofNat (min l.length 128 - 1) :: (l.take 128 ++ plainF f (l.drop 128))
def plain (l : Bs) : Bs := plainF l.length l
theorem plainF_fuel (f : Nat) : ∀ l : Bs, l.length ≤ f → plainF f l = plainF l.length l := by
  induction f using Nat.strongRecOn with
  | _ f ih =>
    intro l hl
    by_cases h0 : l.length = 0
    · have e : plainF l.length l = [] := by rw [h0]; rfl
      rw [e]
      cases f with
      | zero => rfl
      | succ f => simp [plainF, h0]
    · obtain ⟨g, rfl⟩ : ∃ g, f = g + 1 := ⟨f - 1, by omega⟩
      obtain ⟨m, hm⟩ : ∃ m, l.length = m + 1 := ⟨l.length - 1, by omega⟩
      rw [hm]
      unfold plainF
      rw [if_neg h0, if_neg h0, ih g (by omega) (l.drop 128) (by rw [List.length_drop]; omega)]
      congr 2
      rcases Nat.lt_or_ge m (g + 1) with h | h
      · exact (ih m h (l.drop 128) (by rw [List.length_drop]; omega)).symm
      · omega
theorem plain_nil : plain [] = [] := rfl
theorem plain_cons (l : Bs) (h : l.length ≠ 0) : plain l = UInt8.ofNat (min l.length 128 - 1) :: (l.take 128 ++ plain (l.drop 128)) := by
  obtain ⟨m, hm⟩ : ∃ m, l.length = m + 1 := ⟨l.length - 1, by omega⟩
  have e : plain l = plainF (m + 1) l := by unfold plain; rw [hm]
  rw [e]
  unfold plainF
  rw [if_neg h, plainF_fuel m (l.drop 128) (by rw [List.length_drop]; omega)]
  rfl
theorem plain_len (l : Bs) (h : l.length ≤ 128) : (plain l).length = if l.length = 0 then 0 else l.length + 1 := by
  by_cases h0 : l.length = 0
  · rw [if_pos h0, List.eq_nil_of_length_eq_zero h0]; rfl
  · rw [if_neg h0, plain_cons l h0, List.drop_of_length_le h, plain_nil, List.append_nil, List.take_of_length_le h]
    simp
theorem plain_len_le (l : Bs) (h : l.length ≤ 128) : (plain l).length ≤ l.length + 1 := by
  rw [plain_len l h]; split <;> omega

/-- n bytes more, each the one d before -/
def copyN (out : Bs) (d : Nat) : Nat → Bs
  | 0 => out
  | n + 1 => copyN (out ++ [out.getD (out.length - d) 0]) d n
/-- item by item; 0 is OK, 60 no packed data, 4 too many -/
def decF : Nat → Nat → Bs → Bs → Bs × Nat
  | 0, _, _, out => (out, 0)
  | f + 1, most, rest, out => match rest with
    | [] => (out, 0)
    | c :: r => if c.toNat < 128 then
        (if r.length < c.toNat + 1 then ([], 60) else if most < out.length + (c.toNat + 1) then ([], 4) else decF f most (r.drop (c.toNat + 1)) (out ++ r.take (c.toNat + 1)))
      else match r with
        | [] => ([], 60)
        | d :: r2 => if out.length < d.toNat + 1 then ([], 60) else if most < out.length + (c.toNat - 125) then ([], 4) else decF f most r2 (copyN out (d.toNat + 1) (c.toNat - 125))
def dec (most : Nat) (rest out : Bs) : Bs × Nat := decF rest.length most rest out
theorem decF_fuel (f : Nat) : ∀ (most : Nat) (rest out : Bs), rest.length ≤ f → decF f most rest out = decF rest.length most rest out := by
  induction f using Nat.strongRecOn with
  | _ f ih =>
    intro most rest out hl
    match rest with
    | [] => cases f <;> rfl
    | c :: r =>
      obtain ⟨g, rfl⟩ : ∃ g, f = g + 1 := ⟨f - 1, by simp at hl; omega⟩
      have hr : r.length ≤ g := by simpa using hl
      have key : ∀ (r2 out2 : Bs), r2.length ≤ r.length → decF g most r2 out2 = decF r.length most r2 out2 := by
        intro r2 out2 h2
        rw [ih g (by omega) most r2 out2 (by omega)]
        rcases Nat.lt_or_ge r.length (g + 1) with h | h
        · exact (ih r.length h most r2 out2 h2).symm
        · omega
      show decF (g + 1) most (c :: r) out = decF (r.length + 1) most (c :: r) out
      unfold decF
      simp only
      rw [key (r.drop (c.toNat + 1)) _ (by rw [List.length_drop]; omega)]
      match r, key with
      | [], _ => rfl
      | d :: r2, key => simp only; rw [key r2 _ (by simp)]
theorem dec_nil (most : Nat) (out : Bs) : dec most [] out = (out, 0) := rfl
theorem dec_cons (most : Nat) (c : UInt8) (r out : Bs) : dec most (c :: r) out = if c.toNat < 128 then
        (if r.length < c.toNat + 1 then ([], 60) else if most < out.length + (c.toNat + 1) then ([], 4) else dec most (r.drop (c.toNat + 1)) (out ++ r.take (c.toNat + 1)))
      else match r with
        | [] => ([], 60)
        | d :: r2 => if out.length < d.toNat + 1 then ([], 60) else if most < out.length + (c.toNat - 125) then ([], 4) else dec most r2 (copyN out (d.toNat + 1) (c.toNat - 125)) := by
  show decF (r.length + 1) most (c :: r) out = _
  unfold decF
  simp only
  rw [decF_fuel r.length most (r.drop (c.toNat + 1)) _ (by rw [List.length_drop]; omega)]
  match r with
  | [] => rfl
  | d :: r2 =>
    simp only
    rw [decF_fuel (d :: r2).length most r2 _ (by simp)]
    rfl
theorem ofNat_toNat (n : Nat) (h : n < 256) : (UInt8.ofNat n).toNat = n := by simp; omega
theorem dec_lits (most : Nat) (l rest out : Bs) (h0 : l.length ≠ 0) (h : l.length ≤ 128) : dec most (UInt8.ofNat (l.length - 1) :: (l ++ rest)) out = if most < out.length + l.length then ([], 4) else dec most rest (out ++ l) := by
  rw [dec_cons, ofNat_toNat _ (by omega), if_pos (by omega), if_neg (by rw [List.length_append]; omega), show l.length - 1 + 1 = l.length by omega, List.drop_left, List.take_left]
theorem dec_plain (most : Nat) (rest : Bs) (n : Nat) : ∀ (l out : Bs), l.length ≤ n → out.length ≤ most → dec most (plain l ++ rest) out = if most < out.length + l.length then ([], 4) else dec most rest (out ++ l) := by
  induction n using Nat.strongRecOn with
  | _ n ih =>
    intro l out hl ho
    by_cases h0 : l.length = 0
    · rw [List.eq_nil_of_length_eq_zero h0, plain_nil, if_neg (by simpa using ho)]
      simp
    · rw [plain_cons l h0]
      have e : min l.length 128 - 1 = (l.take 128).length - 1 := by rw [List.length_take]; omega
      rw [e, List.cons_append, List.append_assoc, dec_lits most (l.take 128) _ out (by rw [List.length_take]; omega) (by rw [List.length_take]; omega)]
      by_cases hm : most < out.length + (l.take 128).length
      · rw [if_pos hm, if_pos (by rw [List.length_take] at hm; omega)]
      · rw [if_neg hm]
        by_cases hs : l.length ≤ 128
        · rw [List.drop_of_length_le hs, plain_nil, List.take_of_length_le hs] at *
          rw [List.nil_append, if_neg hm]
        · have h1 : (l.drop 128).length < n := by rw [List.length_drop]; omega
          rw [ih _ h1 (l.drop 128) (out ++ l.take 128) (Nat.le_refl _) (by rw [List.length_append]; omega)]
          have e2 : (out ++ l.take 128).length + (l.drop 128).length = out.length + l.length := by rw [List.length_append, List.length_take, List.length_drop]; omega
          rw [e2, List.append_assoc, List.take_append_drop]
theorem copyN_take (b : Bs) (d : Nat) (hd : 1 ≤ d) : ∀ (n i : Nat), d ≤ i → i + n ≤ b.length → (∀ k, k < n → by' b (i + k) = by' b (i + k - d)) → copyN (b.take i) d n = b.take (i + n) := by
  intro n
  induction n with
  | zero => intro i _ _ _; rfl
  | succ n ih =>
    intro i hdi hl h
    have hil : i < b.length := by omega
    have e0 : (b.take i).length = i := by rw [List.length_take]; omega
    have e : b.take i ++ [(b.take i).getD ((b.take i).length - d) 0] = b.take (i + 1) := by
      rw [List.take_succ_eq_append_getElem hil, e0]
      congr 2
      have h1 := h 0 (by omega)
      unfold by' at h1
      rw [Nat.add_zero] at h1
      have h2 : (b.take i).getD (i - d) 0 = b.getD (i - d) 0 := by
        rw [List.getD_eq_getElem?_getD, List.getD_eq_getElem?_getD, List.getElem?_take_of_lt (by omega)]
      rw [h2, ← h1]
      simp [hil]
    show copyN (b.take i ++ [(b.take i).getD ((b.take i).length - d) 0]) d n = _
    rw [e, ih (i + 1) (by omega) (by omega) (fun k hk => by
      have := h (k + 1) (by omega)
      rw [show i + (k + 1) = i + 1 + k by omega] at this
      exact this), show i + 1 + n = i + (n + 1) by omega]

/-- the encoding from position i on, whose plain bytes from 'fr' on are not yet written -/
def encF : Nat → Bs → Nat → Nat → Bs
  | 0, b, fr, _ => plain (b.drop fr)
  | f + 1, b, fr, i => if i < b.length then
      (if (longest b i).2 = 0 ∨ (longest b i).2 < (longest b (i + 1)).2 then encF f b fr (i + 1)
       else plain ((b.take i).drop fr) ++ (UInt8.ofNat (128 + (longest b i).2 - 3) :: UInt8.ofNat ((longest b i).1 - 1) :: encF f b (i + (longest b i).2) (i + (longest b i).2)))
    else plain (b.drop fr)
def enc (b : Bs) : Bs := encF b.length b 0 0
theorem encF_fuel (f : Nat) : ∀ (b : Bs) (fr i : Nat), b.length - i ≤ f → encF f b fr i = encF (b.length - i) b fr i := by
  induction f using Nat.strongRecOn with
  | _ f ih =>
    intro b fr i hl
    by_cases hi : i < b.length
    · obtain ⟨g, rfl⟩ : ∃ g, f = g + 1 := ⟨f - 1, by omega⟩
      obtain ⟨m, hm⟩ : ∃ m, b.length - i = m + 1 := ⟨b.length - i - 1, by omega⟩
      rw [hm]
      have key : ∀ fr' i', i + 1 ≤ i' → encF g b fr' i' = encF m b fr' i' := by
        intro fr' i' h'
        rw [ih g (by omega) b fr' i' (by omega)]
        rcases Nat.lt_or_ge m (g + 1) with h | h
        · exact (ih m h b fr' i' (by omega)).symm
        · omega
      unfold encF
      rw [if_pos hi, if_pos hi, key fr (i + 1) (Nat.le_refl _)]
      by_cases hc : (longest b i).2 = 0 ∨ (longest b i).2 < (longest b (i + 1)).2
      · rw [if_pos hc, if_pos hc]
      · rw [if_neg hc, if_neg hc, key _ (i + (longest b i).2) (by omega)]
    · have e : b.length - i = 0 := by omega
      rw [e]
      cases f with
      | zero => rfl
      | succ f => unfold encF; rw [if_neg hi]
/-- a step of the encoding -/
theorem enc_end (b : Bs) (fr i : Nat) (hi : ¬ i < b.length) : encF (b.length - i) b fr i = plain (b.drop fr) := by
  rw [show b.length - i = 0 by omega]; rfl
theorem enc_lit (b : Bs) (fr i : Nat) (hi : i < b.length) (h : (longest b i).2 = 0 ∨ (longest b i).2 < (longest b (i + 1)).2) : encF (b.length - i) b fr i = encF (b.length - (i + 1)) b fr (i + 1) := by
  obtain ⟨m, hm⟩ : ∃ m, b.length - i = m + 1 := ⟨b.length - i - 1, by omega⟩
  rw [hm, show b.length - (i + 1) = m by omega]
  conv => lhs; unfold encF
  rw [if_pos hi, if_pos h]
theorem enc_match (b : Bs) (fr i : Nat) (hi : i < b.length) (h : ¬ ((longest b i).2 = 0 ∨ (longest b i).2 < (longest b (i + 1)).2)) :
    encF (b.length - i) b fr i = plain ((b.take i).drop fr) ++ (UInt8.ofNat (128 + (longest b i).2 - 3) :: UInt8.ofNat ((longest b i).1 - 1) :: encF (b.length - (i + (longest b i).2)) b (i + (longest b i).2) (i + (longest b i).2)) := by
  obtain ⟨m, hm⟩ : ∃ m, b.length - i = m + 1 := ⟨b.length - i - 1, by omega⟩
  rw [hm]
  conv => lhs; unfold encF
  rw [if_pos hi, if_neg h, encF_fuel m b _ (i + (longest b i).2) (by omega)]

/-- what is packed comes back -/
theorem dec_enc (b : Bs) (most : Nat) : ∀ (k fr i : Nat), b.length - i ≤ k → fr ≤ i → i ≤ b.length → fr ≤ most → dec most (encF (b.length - i) b fr i) (b.take fr) = if most < b.length then ([], 4) else (b, 0) := by
  intro k
  induction k using Nat.strongRecOn with
  | _ k ih =>
    intro fr i hk hfr hib hm
    have e0 : (b.take fr).length = fr := by rw [List.length_take]; omega
    by_cases hi : i < b.length
    · by_cases hc : (longest b i).2 = 0 ∨ (longest b i).2 < (longest b (i + 1)).2
      · rw [enc_lit b fr i hi hc]
        exact ih (b.length - (i + 1)) (by omega) fr (i + 1) (Nat.le_refl _) (by omega) (by omega) hm
      · obtain ⟨d, n, hdn⟩ : ∃ d n, longest b i = (d, n) := ⟨_, _, rfl⟩
        rw [enc_match b fr i hi hc, hdn]
        rw [hdn] at hc
        simp only at hc ⊢
        obtain ⟨a1, a2, a3, a4, a5, a6, a7, _⟩ := longest_runs b i d n hdn (by omega)
        have el : ((b.take i).drop fr).length = i - fr := by rw [List.length_drop, List.length_take]; omega
        have et : b.take fr ++ (b.take i).drop fr = b.take i := by
          have h1 : b.take fr = (b.take i).take fr := by rw [List.take_take, Nat.min_eq_left hfr]
          rw [h1, List.take_append_drop]
        rw [dec_plain most _ _ ((b.take i).drop fr) (b.take fr) (Nat.le_refl _) (by omega), e0, el, et, show fr + (i - fr) = i by omega]
        by_cases hmi : most < i
        · rw [if_pos hmi, if_pos (by omega)]
        · rw [if_neg hmi, dec_cons, ofNat_toNat _ (by omega), if_neg (by omega)]
          simp only
          have e1 : (b.take i).length = i := by rw [List.length_take]; omega
          rw [ofNat_toNat _ (by omega), e1, if_neg (by omega), show d - 1 + 1 = d by omega, show 128 + n - 3 - 125 = n by omega]
          by_cases hmn : most < i + n
          · rw [if_pos hmn, if_pos (by omega)]
          · rw [if_neg hmn, copyN_take b d a1 n i a3 a6 a7]
            exact ih (b.length - (i + n)) (by omega) (i + n) (i + n) (Nat.le_refl _) (Nat.le_refl _) a6 (by omega)
    · rw [enc_end b fr i hi]
      have h := dec_plain most [] _ (b.drop fr) (b.take fr) (Nat.le_refl _) (by omega)
      rw [List.append_nil] at h
      rw [h, e0, List.length_drop, List.take_append_drop, show fr + (b.length - fr) = b.length by omega, dec_nil]

/-- P6.1 -/
def pack (b : Bs) : Bs := if (enc b).length < b.length then 1 :: enc b else 0 :: b
/-- P6.2 -/
def unpack (p : Bs) (most : Nat) : Bs × Nat := match p with
  | [] => ([], 60)
  | c :: r => if 1 < c.toNat then ([], 60) else if c.toNat = 0 then (if most < r.length then ([], 4) else (r, 0)) else dec most r []
theorem unpack_one (r : Bs) (most : Nat) : unpack (1 :: r) most = dec most r [] := by
  unfold unpack
  simp only
  rw [if_neg (by decide), if_neg (by decide)]
theorem unpack_zero (r : Bs) (most : Nat) : unpack (0 :: r) most = if most < r.length then ([], 4) else (r, 0) := by
  unfold unpack
  simp only
  rw [if_neg (by decide), if_pos (by decide)]
/-- P6.3 -/
theorem unpack_pack (b : Bs) (most : Nat) : unpack (pack b) most = if most < b.length then ([], 4) else (b, 0) := by
  unfold pack
  split
  · rw [unpack_one]
    exact dec_enc b most _ 0 0 (Nat.le_refl _) (Nat.le_refl _) (Nat.zero_le _) (Nat.zero_le _)
  · rw [unpack_zero]
theorem pack_len (b : Bs) : (pack b).length ≤ b.length + 1 := by
  unfold pack; split <;> simp <;> omega
theorem pack_kinds (b : Bs) : (∃ l, pack b = 1 :: l ∧ l.length + 1 ≤ b.length) ∨ pack b = 0 :: b := by
  unfold pack
  split
  · exact .inl ⟨_, rfl, by omega⟩
  · exact .inr rfl
theorem pack_len_enc (b : Bs) : (pack b).length ≤ (enc b).length + 1 := by
  unfold pack; split <;> simp <;> omega

/-! ### P6.4 -/
theorem longest_le (b : Bs) (i : Nat) : (longest b i).2 = 0 ∨ 3 ≤ (longest b i).2 ∧ i + (longest b i).2 ≤ b.length := by
  obtain ⟨d, n, h⟩ : ∃ d n, longest b i = (d, n) := ⟨_, _, rfl⟩
  rw [h]
  by_cases h0 : n = 0
  · exact .inl h0
  · have := longest_runs b i d n h (by omega)
    exact .inr ⟨this.2.2.2.1, this.2.2.2.2.2.1⟩
/-- one byte, again and again: from a place behind the first on, when all before is written -/
theorem run_enc (c : UInt8) (n : Nat) : ∀ (k i : Nat), n - i ≤ k → 1 ≤ i → i ≤ n → (encF (n - i) (List.replicate n c) i i).length ≤ 2 * ((n - i) / 130) + (if (n - i) % 130 = 0 then 0 else 3) := by
  intro k
  induction k using Nat.strongRecOn with
  | _ k ih =>
    intro i hk h1 hin
    have hlen : (List.replicate n c).length = n := List.length_replicate
    by_cases hi : i < n
    · have hl := longest_one c n i hi
      by_cases h3 : n - i < 3
      · -- one or two plain bytes
        have e : ∀ j, i ≤ j → j < n → (longest (List.replicate n c) j).2 = 0 := by
          intro j hj1 hj2
          rw [longest_one c n j hj2, if_pos (Or.inr (by omega))]
        have step : ∀ m j, n - j ≤ m → i ≤ j → j ≤ n → encF (n - j) (List.replicate n c) i j = plain ((List.replicate n c).drop i) := by
          intro m
          induction m with
          | zero =>
            intro j hm hij hjn
            have h := enc_end (List.replicate n c) i j (by rw [hlen]; omega)
            rw [hlen] at h; exact h
          | succ m ihm =>
            intro j hm hij hjn
            by_cases hjn' : j < n
            · have h := enc_lit (List.replicate n c) i j (by rw [hlen]; exact hjn') (Or.inl (e j hij hjn'))
              rw [hlen] at h
              rw [h]
              exact ihm (j + 1) (by omega) (by omega) (by omega)
            · have h := enc_end (List.replicate n c) i j (by rw [hlen]; omega)
              rw [hlen] at h; exact h
        rw [step (n - i) i (Nat.le_refl _) (Nat.le_refl _) hin]
        have := plain_len_le ((List.replicate n c).drop i) (by rw [List.length_drop, hlen]; omega)
        rw [List.length_drop, hlen] at this
        rw [if_neg (by omega)]
        omega
      · rw [if_neg (by omega)] at hl
        have hnext : (longest (List.replicate n c) (i + 1)).2 ≤ min 130 (n - i) := by
          by_cases hi1 : i + 1 < n
          · rw [longest_one c n (i + 1) hi1]
            split
            · exact Nat.zero_le _
            · show min 130 (n - (i + 1)) ≤ _; omega
          · omega
        have h := enc_match (List.replicate n c) i i (by rw [hlen]; exact hi) (by rw [hl]; simp only; omega)
        rw [hlen, hl] at h
        simp only at h
        rw [h]
        have e0 : ((List.replicate n c).take i).drop i = [] := by apply List.drop_of_length_le; rw [List.length_take]; omega
        rw [e0, plain_nil, List.nil_append, List.length_cons, List.length_cons]
        have := ih (n - (i + min 130 (n - i))) (by omega) (i + min 130 (n - i)) (Nat.le_refl _) (by omega) (by omega)
        by_cases h130 : n - i < 130
        · have e1 : n - (i + min 130 (n - i)) = 0 := by omega
          rw [e1] at this
          have e2 : ¬ (n - i) % 130 = 0 := by omega
          rw [if_neg e2]
          simp only [Nat.zero_mod, Nat.zero_div, if_true] at this
          rw [e1]
          omega
        · have e1 : n - (i + min 130 (n - i)) = n - i - 130 := by omega
          rw [e1] at this ⊢
          have e2 : (n - i - 130) % 130 = (n - i) % 130 := by omega
          have e3 : (n - i) / 130 = (n - i - 130) / 130 + 1 := by omega
          rw [e2] at this
          rw [e3]
          omega
    · have h := enc_end (List.replicate n c) i i (by rw [hlen]; omega)
      rw [hlen] at h
      rw [h, List.drop_of_length_le (by rw [hlen]; omega), plain_nil]
      exact Nat.zero_le _
theorem run_packed (c : UInt8) (n : Nat) (h5 : 5 ≤ n) : (pack (List.replicate n c)).length ≤ 4 + 2 * (n / 130 + 1) := by
  refine Nat.le_trans (pack_len_enc _) ?_
  have hlen : (List.replicate n c).length = n := List.length_replicate
  have h0 : (longest (List.replicate n c) 0).2 = 0 := by rw [longest_one c n 0 (by omega), if_pos (Or.inl rfl)]
  have h1 := longest_one c n 1 (by omega)
  rw [if_neg (by omega)] at h1
  have h2 : (longest (List.replicate n c) (1 + 1)).2 ≤ min 130 (n - 1) := by
    rw [longest_one c n (1 + 1) (by omega)]
    split
    · exact Nat.zero_le _
    · show min 130 (n - (1 + 1)) ≤ _; omega
  have s0 := enc_lit (List.replicate n c) 0 0 (by rw [hlen]; omega) (Or.inl h0)
  have s1 := enc_match (List.replicate n c) 0 1 (by rw [hlen]; omega) (by rw [h1]; simp only; omega)
  rw [hlen] at s0 s1
  rw [h1] at s1
  simp only at s1
  have e : enc (List.replicate n c) = encF (n - 0) (List.replicate n c) 0 0 := by unfold enc; rw [hlen]; rfl
  rw [e, s0, s1]
  have h3 := run_enc c n _ (1 + min 130 (n - 1)) (Nat.le_refl _) (by omega) (by omega)
  have h4 := plain_len_le (((List.replicate n c).take 1).drop 0) (by rw [List.length_drop, List.length_take]; omega)
  rw [List.length_drop, List.length_take, hlen] at h4
  rw [List.length_append, List.length_cons, List.length_cons]
  by_cases h130 : n - 1 ≤ 130
  · have e1 : n - (1 + min 130 (n - 1)) = 0 := by omega
    rw [e1] at h3 ⊢
    simp only [Nat.zero_mod, Nat.zero_div, if_true] at h3
    omega
  · have e1 : n - (1 + min 130 (n - 1)) = n - 131 := by omega
    rw [e1] at h3 ⊢
    have e3 : (n - 131) / 130 + 1 ≤ n / 130 := by omega
    split at h3 <;> omega

/-- bytes twice: behind the middle a match goes to the end -/
theorem twice_longest (x : Bs) (hm : x.length ≤ 100) (i : Nat) (h1 : x.length ≤ i) (h2 : i + 3 ≤ 2 * x.length) (h0 : 1 ≤ x.length) : (longest (x ++ x) i).2 = 2 * x.length - i := by
  have hl : (x ++ x).length = 2 * x.length := by rw [List.length_append]; omega
  have hge : 2 * x.length - i ≤ com (x ++ x) (i - x.length) i := by
    refine com_ge _ _ _ _ (by omega) (fun j hj => ⟨by omega, by omega, ?_⟩)
    unfold by'
    rw [List.getD_eq_getElem?_getD, List.getD_eq_getElem?_getD, List.getElem?_append_left (by omega), List.getElem?_append_right (by omega)]
    congr 2
    omega
  have hD : x.length ≤ dmax (x ++ x) i := by unfold dmax; rw [if_pos (by omega)]; omega
  have hb := best_max (x ++ x) i _ x.length h0 hD
  have hne : ¬ (best (x ++ x) i (dmax (x ++ x) i)).2 < 3 := by omega
  have e : longest (x ++ x) i = best (x ++ x) i (dmax (x ++ x) i) := by unfold longest; rw [if_neg hne]
  have := longest_le (x ++ x) i
  rw [e, hl] at this
  rw [e]
  omega
theorem twice_match (x : Bs) (hm : x.length ≤ 100) (h0 : 1 ≤ x.length) (i : Nat) (h1 : x.length ≤ i) (h3 : i + 3 ≤ 2 * x.length) (fr : Nat) (hfr : fr ≤ i) (hrun : i - fr ≤ 128) :
    (encF (2 * x.length - i) (x ++ x) fr i).length ≤ (if fr = i then 0 else i - fr + 1) + 2 := by
  have hl : (x ++ x).length = 2 * x.length := by rw [List.length_append]; omega
  have hn := twice_longest x hm i h1 h3 h0
  have hnext : (longest (x ++ x) (i + 1)).2 ≤ 2 * x.length - i := by
    rcases longest_le (x ++ x) (i + 1) with h | h
    · omega
    · omega
  have h := enc_match (x ++ x) fr i (by rw [hl]; omega) (by rw [hn]; omega)
  rw [hl, hn] at h
  rw [h, show i + (2 * x.length - i) = 2 * x.length by omega]
  have he := enc_end (x ++ x) (2 * x.length) (2 * x.length) (by omega)
  rw [hl] at he
  have hz : (x ++ x).drop (2 * x.length) = [] := List.drop_of_length_le (by omega)
  rw [he, hz, plain_nil, List.length_append]
  have el : (((x ++ x).take i).drop fr).length = i - fr := by rw [List.length_drop, List.length_take]; omega
  have := plain_len (((x ++ x).take i).drop fr) (by omega)
  rw [el] at this
  rw [this]
  simp only [List.length_cons, List.length_nil]
  by_cases hf : fr = i
  · rw [if_pos (by omega), if_pos hf]; omega
  · rw [if_neg (by omega), if_neg hf]; omega
theorem twice_end (x : Bs) (hm : x.length ≤ 100) (h0 : 1 ≤ x.length) (i : Nat) (h1 : x.length ≤ i) (h2 : i ≤ 2 * x.length) : (encF (2 * x.length - i) (x ++ x) i i).length ≤ 3 := by
  have hl : (x ++ x).length = 2 * x.length := by rw [List.length_append]; omega
  by_cases h3 : i + 3 ≤ 2 * x.length
  · have := twice_match x hm h0 i h1 h3 i (Nat.le_refl _) (by omega)
    rw [if_pos rfl] at this
    omega
  · have e : ∀ j, i ≤ j → (longest (x ++ x) j).2 = 0 := by
      intro j hj
      rcases longest_le (x ++ x) j with h | h
      · exact h
      · omega
    have step : ∀ m j, 2 * x.length - j ≤ m → i ≤ j → encF (2 * x.length - j) (x ++ x) i j = plain ((x ++ x).drop i) := by
      intro m
      induction m with
      | zero =>
        intro j hm hij
        have h := enc_end (x ++ x) i j (by omega)
        rw [hl] at h; exact h
      | succ m ihm =>
        intro j hm hij
        by_cases hjn : j < 2 * x.length
        · have h := enc_lit (x ++ x) i j (by omega) (Or.inl (e j hij))
          rw [hl] at h
          rw [h]
          exact ihm (j + 1) (by omega) (by omega)
        · have h := enc_end (x ++ x) i j (by omega)
          rw [hl] at h; exact h
    rw [step _ i (Nat.le_refl _) (Nat.le_refl _)]
    have := plain_len_le ((x ++ x).drop i) (by rw [List.length_drop]; omega)
    rw [List.length_drop] at this
    omega
theorem twice_enc (x : Bs) (hm : x.length ≤ 100) (h0 : 3 ≤ x.length) : ∀ (k i fr : Nat), x.length - i ≤ k → fr ≤ i → i ≤ x.length → (encF (2 * x.length - i) (x ++ x) fr i).length ≤ x.length - fr + 5 := by
  have hl : (x ++ x).length = 2 * x.length := by rw [List.length_append]; omega
  intro k
  induction k using Nat.strongRecOn with
  | _ k ih =>
    intro i fr hk hfr hi
    by_cases he : i = x.length
    · subst he
      have := twice_match x hm (by omega) x.length (Nat.le_refl _) (by omega) fr hfr (by omega)
      split at this <;> omega
    · by_cases hc : (longest (x ++ x) i).2 = 0 ∨ (longest (x ++ x) i).2 < (longest (x ++ x) (i + 1)).2
      · have h := enc_lit (x ++ x) fr i (by omega) hc
        rw [hl] at h
        rw [h]
        exact ih (x.length - (i + 1)) (by omega) (i + 1) fr (Nat.le_refl _) (by omega) (by omega)
      · have h := enc_match (x ++ x) fr i (by omega) hc
        rw [hl] at h
        obtain ⟨n, hn⟩ : ∃ n, (longest (x ++ x) i).2 = n := ⟨_, rfl⟩
        have hlong := longest_le (x ++ x) i
        rw [hn, hl] at hlong
        rw [hn] at h hc
        rw [h, List.length_append, List.length_cons, List.length_cons]
        have el : (((x ++ x).take i).drop fr).length = i - fr := by rw [List.length_drop, List.length_take]; omega
        have hp := plain_len_le (((x ++ x).take i).drop fr) (by omega)
        rw [el] at hp
        by_cases hin : i + n ≤ x.length
        · have := ih (x.length - (i + n)) (by omega) (i + n) (i + n) (Nat.le_refl _) (Nat.le_refl _) hin
          omega
        · have := twice_end x hm (by omega) (i + n) (by omega) (by omega)
          omega
theorem twice_packed (x : Bs) (h1 : 20 ≤ x.length) (hm : x.length ≤ 100) : (pack (x ++ x)).length < 2 * x.length := by
  refine Nat.lt_of_le_of_lt (pack_len_enc _) ?_
  have hl : (x ++ x).length = 2 * x.length := by rw [List.length_append]; omega
  have := twice_enc x hm (by omega) _ 0 0 (Nat.le_refl _) (Nat.le_refl _) (Nat.zero_le _)
  unfold enc
  rw [hl]
  rw [Nat.sub_zero] at this
  omega

/-- LzSteps -/
theorem copyN_len (d : Nat) : ∀ (n : Nat) (out : Bs), (copyN out d n).length = out.length + n := by
  intro n
  induction n with
  | zero => intro out; rfl
  | succ n ih =>
    intro out
    show (copyN (out ++ [out.getD (out.length - d) 0]) d n).length = _
    rw [ih, List.length_append, List.length_cons, List.length_nil]; omega
theorem copyN_pre (d : Nat) : ∀ (n : Nat) (out : Bs) (k : Nat), k < out.length → (copyN out d n).getD k 0 = out.getD k 0 := by
  intro n
  induction n with
  | zero => intro out k _; rfl
  | succ n ih =>
    intro out k hk
    show (copyN (out ++ [out.getD (out.length - d) 0]) d n).getD k 0 = _
    rw [ih _ k (by rw [List.length_append]; omega), List.getD_eq_getElem?_getD, List.getD_eq_getElem?_getD, List.getElem?_append_left hk]
    rw [List.getD_eq_getElem?_getD]
theorem copyN_at (d : Nat) (hd : 1 ≤ d) : ∀ (n : Nat) (out : Bs), d ≤ out.length → ∀ k, out.length ≤ k → k < out.length + n → (copyN out d n).getD k 0 = (copyN out d n).getD (k - d) 0 := by
  intro n
  induction n with
  | zero => intro out _ k h1 h2; omega
  | succ n ih =>
    intro out hdl k h1 h2
    have el : (out ++ [out.getD (out.length - d) 0]).length = out.length + 1 := by rw [List.length_append]; rfl
    show (copyN (out ++ [out.getD (out.length - d) 0]) d n).getD k 0 = (copyN (out ++ [out.getD (out.length - d) 0]) d n).getD (k - d) 0
    by_cases hk : k = out.length
    · subst hk
      rw [copyN_pre d n _ out.length (by rw [el]; omega), copyN_pre d n _ (out.length - d) (by rw [el]; omega)]
      rw [List.getD_eq_getElem?_getD, List.getElem?_append_right (Nat.le_refl _), List.getD_eq_getElem?_getD, List.getD_eq_getElem?_getD, List.getElem?_append_left (by omega)]
      simp
    · exact ih _ (by rw [el]; omega) k (by rw [el]; omega) (by rw [el]; omega)
theorem steps_dec (x : Bs) (h0 : x.length ≠ 0) (h1 : x.length ≤ 128) (d n : Nat) (hd : 1 ≤ d) (hdx : d ≤ x.length) (hn : 3 ≤ n) (hn2 : n ≤ 130) (most : Nat) (hmost : x.length + n ≤ most) :
    unpack (1 :: UInt8.ofNat (x.length - 1) :: (x ++ [UInt8.ofNat (128 + n - 3), UInt8.ofNat (d - 1)])) most = (copyN x d n, 0) := by
  rw [unpack_one, dec_lits most x _ [] h0 h1, if_neg (by simp only [List.length_nil]; omega), List.nil_append, dec_cons, ofNat_toNat _ (by omega), if_neg (by omega)]
  simp only
  rw [ofNat_toNat _ (by omega), if_neg (by omega), if_neg (by omega), dec_nil, show d - 1 + 1 = d by omega, show 128 + n - 3 - 125 = n by omega]
theorem steps_cut (x : Bs) (h0 : x.length ≠ 0) (h1 : x.length ≤ 128) (n : Nat) (hn : 3 ≤ n) (hn2 : n ≤ 130) (most : Nat) (hmost : x.length ≤ most) :
    unpack (1 :: UInt8.ofNat (x.length - 1) :: (x ++ [UInt8.ofNat (128 + n - 3)])) most = ([], 60) := by
  rw [unpack_one, dec_lits most x _ [] h0 h1, if_neg (by simp only [List.length_nil]; omega), List.nil_append, dec_cons, ofNat_toNat _ (by omega), if_neg (by omega)]
theorem plain_len2 : ∀ (n : Nat) (l : Bs), l.length ≤ n → (plain l).length ≤ 2 * l.length
  | 0, l, h => by rw [List.eq_nil_of_length_eq_zero (show l.length = 0 by omega)]; simp [plain_nil]
  | n + 1, l, h => by
    by_cases h0 : l.length = 0
    · rw [List.eq_nil_of_length_eq_zero h0]; simp [plain_nil]
    · rw [plain_cons l h0]
      have := plain_len2 n (l.drop 128) (by rw [List.length_drop]; omega)
      rw [List.length_drop] at this
      simp only [List.length_cons, List.length_append, List.length_take]
      omega
theorem plain_step (l : Bs) (h : l.length ≠ 0) (m : Nat) (hm : m = min l.length 128) : plain l = UInt8.ofNat (m - 1) :: (l.take m ++ plain (l.drop m)) := by
  rw [plain_cons l h, hm]
  rcases Nat.le_total l.length 128 with h1 | h1
  · rw [Nat.min_eq_left h1, List.take_of_length_le h1, List.drop_of_length_le h1, List.take_length, List.drop_length]
  · rw [Nat.min_eq_right h1]
theorem longest_out (b : Bs) (i : Nat) (h : b.length ≤ i) : longest b i = (0, 0) := by
  have e : dmax b i = 0 := by unfold dmax; rw [if_neg (by omega)]
  unfold longest
  rw [e]
  rfl
theorem encF_len (b : Bs) : ∀ (k fr i : Nat), b.length - i ≤ k → fr ≤ i → i ≤ b.length → (encF (b.length - i) b fr i).length ≤ 2 * (b.length - fr) := by
  intro k
  induction k using Nat.strongRecOn with
  | _ k ih =>
    intro fr i hk hfr hib
    by_cases hi : i < b.length
    · by_cases hc : (longest b i).2 = 0 ∨ (longest b i).2 < (longest b (i + 1)).2
      · rw [enc_lit b fr i hi hc]
        exact ih (b.length - (i + 1)) (by omega) fr (i + 1) (Nat.le_refl _) (by omega) (by omega)
      · rw [enc_match b fr i hi hc]
        have h3 := longest_le b i
        have h1 := plain_len2 _ ((b.take i).drop fr) (Nat.le_refl _)
        have h2 := ih (b.length - (i + (longest b i).2)) (by omega) (i + (longest b i).2) (i + (longest b i).2) (Nat.le_refl _) (Nat.le_refl _) (by omega)
        rw [List.length_drop, List.length_take] at h1
        simp only [List.length_append, List.length_cons]
        omega
    · rw [enc_end b fr i hi]
      have h1 := plain_len2 _ (b.drop fr) (Nat.le_refl _)
      rw [List.length_drop] at h1
      exact h1
theorem enc_len (b : Bs) : (enc b).length ≤ 2 * b.length := encF_len b b.length 0 0 (Nat.le_refl _) (Nat.le_refl _) (Nat.zero_le _)
theorem copyN_succ (d : Nat) : ∀ (j : Nat) (out : Bs), copyN out d (j + 1) = copyN out d j ++ [(copyN out d j).getD ((copyN out d j).length - d) 0] := by
  intro j
  induction j with
  | zero => intro out; rfl
  | succ j ih =>
    intro out
    show copyN (out ++ [out.getD (out.length - d) 0]) d (j + 1) = _
    rw [ih]
    rfl
/-- what a head byte and what follows make of it -/
theorem dec_at (most : Nat) (p out : Bs) (i : Nat) (h : i < p.length) : dec most (p.drop i) out = dec most (p.getD i 0 :: p.drop (i + 1)) out := by
  rw [List.drop_eq_getElem_cons h]
  simp [List.getD, h]
theorem dec_lit_long (most : Nat) (p out : Bs) (i : Nat) (h : i < p.length) (c : UInt8) (hc : p.getD i 0 = c) (h1 : c.toNat < 128) (h2 : p.length - (i + 1) < c.toNat + 1) : dec most (p.drop i) out = ([], 60) := by
  rw [dec_at most p out i h, hc, dec_cons, if_pos h1, if_pos (by rw [List.length_drop]; exact h2)]
theorem dec_lit_most (most : Nat) (p out : Bs) (i : Nat) (h : i < p.length) (c : UInt8) (hc : p.getD i 0 = c) (h1 : c.toNat < 128) (h2 : ¬ p.length - (i + 1) < c.toNat + 1) (h3 : most < out.length + (c.toNat + 1)) : dec most (p.drop i) out = ([], 4) := by
  rw [dec_at most p out i h, hc, dec_cons, if_pos h1, if_neg (by rw [List.length_drop]; exact h2), if_pos h3]
theorem dec_lit_ok (most : Nat) (p out : Bs) (i : Nat) (h : i < p.length) (c : UInt8) (hc : p.getD i 0 = c) (h1 : c.toNat < 128) (h2 : ¬ p.length - (i + 1) < c.toNat + 1) (h3 : ¬ most < out.length + (c.toNat + 1)) :
    dec most (p.drop i) out = dec most (p.drop (i + 1 + (c.toNat + 1))) (out ++ (p.take (i + 1 + (c.toNat + 1))).drop (i + 1)) := by
  rw [dec_at most p out i h, hc, dec_cons, if_pos h1, if_neg (by rw [List.length_drop]; exact h2), if_neg h3, List.drop_drop, List.drop_take]
  rw [show i + 1 + (c.toNat + 1) - (i + 1) = c.toNat + 1 by omega]
theorem dec_ref_end (most : Nat) (p out : Bs) (i : Nat) (h : i + 1 = p.length) (c : UInt8) (hc : p.getD i 0 = c) (h1 : ¬ c.toNat < 128) : dec most (p.drop i) out = ([], 60) := by
  rw [dec_at most p out i (by omega), hc, dec_cons, if_neg h1, List.drop_of_length_le (by omega)]
theorem dec_ref (most : Nat) (p out : Bs) (i : Nat) (h : i + 1 < p.length) (c d : UInt8) (hc : p.getD i 0 = c) (hd : p.getD (i + 1) 0 = d) (h1 : ¬ c.toNat < 128) :
    dec most (p.drop i) out = if out.length < d.toNat + 1 then ([], 60) else if most < out.length + (c.toNat - 125) then ([], 4) else dec most (p.drop (i + 2)) (copyN out (d.toNat + 1) (c.toNat - 125)) := by
  rw [dec_at most p out i (by omega), hc, dec_cons, if_neg h1]
  rw [List.drop_eq_getElem_cons h]
  have e : p[i + 1] = d := by rw [← hd]; simp [List.getD, h]
  rw [e]
end Go.LzM
