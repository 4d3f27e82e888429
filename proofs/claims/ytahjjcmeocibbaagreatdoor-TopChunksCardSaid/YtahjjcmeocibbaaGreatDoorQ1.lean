/- Merged: MatM LzM KecM SpoM PagM RecM FlaM LogM LogF TabM LogT LogS LogU -/
import Derived.WalkKit
set_option linter.unusedVariables false
section
namespace Go.MatM
abbrev Bs := List UInt8
def by' (b : Bs) (i : Nat) : UInt8 := b.getD i 0
def cnt (b : Bs) (i k : Nat) : Nat -> Nat -> Nat
 | 0, n => n
 | f + 1, n => if i + n < b.length /\ k + n < b.length /\ by' b (i + n) = by' b (k + n) then cnt b i k f (n + 1) else n
def com (b : Bs) (i k : Nat) : Nat := cnt b i k 130 0
theorem cnt_le (b : Bs) (i k f n : Nat) : n <= cnt b i k f n /\ cnt b i k f n <= n + f := by
 induction f generalizing n with
 | zero => simp [cnt]
 | succ f ih =>
  unfold cnt
  split
  · have := ih (n + 1); omega
  · omega
theorem cnt_same (b : Bs) (i k f n : Nat) : ∀ j, n <= j -> j < cnt b i k f n -> i + j < b.length /\ k + j < b.length /\ by' b (i + j) = by' b (k + j) := by
 induction f generalizing n with
 | zero => intro j h1 h2; simp [cnt] at h2; omega
 | succ f ih =>
  intro j h1 h2
  unfold cnt at h2
  split at h2
  · rename_i hc
    by_cases hj : j = n
    · subst hj; exact hc
    · exact ih (n + 1) j (by omega) h2
  · omega
theorem cnt_stop (b : Bs) (i k f n : Nat) (h : cnt b i k f n < n + f) : ¬ (i + cnt b i k f n < b.length /\ k + cnt b i k f n < b.length /\ by' b (i + cnt b i k f n) = by' b (k + cnt b i k f n)) := by
 induction f generalizing n with
 | zero => simp [cnt] at h
 | succ f ih =>
  unfold cnt at h ⊢
  split
  · rename_i hc
    rw [if_pos hc] at h
    exact ih (n + 1) (by omega)
  · rename_i hc; exact hc
theorem com_le (b : Bs) (i k : Nat) : com b i k <= 130 := by have := cnt_le b i k 130 0; unfold com; omega
theorem com_same (b : Bs) (i k j : Nat) (h : j < com b i k) : i + j < b.length /\ k + j < b.length /\ by' b (i + j) = by' b (k + j) := cnt_same b i k 130 0 j (Nat.zero_le _) h
theorem com_stop (b : Bs) (i k : Nat) (h : com b i k < 130) : ¬ (i + com b i k < b.length /\ k + com b i k < b.length /\ by' b (i + com b i k) = by' b (k + com b i k)) := cnt_stop b i k 130 0 (by unfold com at h; omega)
theorem com_ge (b : Bs) (i k m : Nat) (hm : m <= 130) (h : ∀ j, j < m -> i + j < b.length /\ k + j < b.length /\ by' b (i + j) = by' b (k + j)) : m <= com b i k := by
 rcases Nat.lt_or_ge (com b i k) m with hc | hc
 · exact absurd (h _ hc) (com_stop b i k (by omega))
 · exact hc
def best (b : Bs) (at' : Nat) : Nat -> Nat × Nat
 | 0 => (0, 0)
 | d + 1 => if (best b at' d).2 < com b (at' - (d + 1)) at' then (d + 1, com b (at' - (d + 1)) at') else best b at' d
def dmax (b : Bs) (at' : Nat) : Nat := if at' < b.length then min 256 at' else 0
def longest (b : Bs) (at' : Nat) : Nat × Nat := if (best b at' (dmax b at')).2 < 3 then (0, 0) else best b at' (dmax b at')
theorem best_max (b : Bs) (at' D d : Nat) (h1 : 1 <= d) (h2 : d <= D) : com b (at' - d) at' <= (best b at' D).2 := by
 induction D with
 | zero => omega
 | succ D ih =>
  unfold best
  by_cases hd : d = D + 1
  · subst hd; split
    · exact Nat.le_refl _
    · omega
  · have := ih (by omega)
    split
    · simp only; omega
    · exact this
theorem best_is (b : Bs) (at' D : Nat) (h : 0 < (best b at' D).2) : 1 <= (best b at' D).1 /\ (best b at' D).1 <= D /\ com b (at' - (best b at' D).1) at' = (best b at' D).2 /\ ∀ d, 1 <= d -> d < (best b at' D).1 -> com b (at' - d) at' < (best b at' D).2 := by
 induction D with
 | zero => simp [best] at h
 | succ D ih =>
  unfold best at h ⊢
  split
  · rename_i hc
    refine ⟨by simp, by simp, rfl, fun d h1 h2 => ?_⟩
    have := best_max b at' D d h1 (by simp only at h2; omega)
    simp only; omega
  · rename_i hc
    rw [if_neg hc] at h
    obtain ⟨a1, a2, a3, a4⟩ := ih h
    exact ⟨a1, by omega, a3, a4⟩
theorem longest_runs (b : Bs) (at' d n : Nat) (h : longest b at' = (d, n)) (hd : ¬ (d = 0 /\ n = 0)) :
 1 <= d /\ d <= 256 /\ d <= at' /\ 3 <= n /\ n <= 130 /\ at' + n <= b.length /\ (∀ k, k < n -> by' b (at' + k) = by' b (at' + k - d)) /\ (n < 130 -> at' + n < b.length -> by' b (at' + n) ≠ by' b (at' + n - d)) := by
 unfold longest at h
 split at h
 · simp only [Prod.mk.injEq] at h; omega
 · rename_i h3
   have hb := best_is b at' (dmax b at') (by omega)
   rw [h] at hb h3
   simp only at hb h3
   obtain ⟨a1, a2, a3, a4⟩ := hb
   have hD : dmax b at' <= 256 /\ dmax b at' <= at' := by unfold dmax; split <;> omega
   have hl := com_le b (at' - d) at'
   refine ⟨a1, by omega, by omega, by omega, by omega, ?_, fun k hk => ?_, fun hn hlen => ?_⟩
   · have := com_same b (at' - d) at' (n - 1) (by omega); omega
   · have := com_same b (at' - d) at' k (by omega)
     rw [show at' + k - d = at' - d + k by omega]
     exact this.2.2.symm
   · have := com_stop b (at' - d) at' (by omega)
     rw [a3] at this
     intro he
     exact this ⟨by omega, hlen, by rw [he]; congr 1; omega⟩
end Go.MatM
end
section
namespace Go.LzM
open Go.MatM
def plainF : Nat -> Bs -> Bs
 | 0, _ => []
 | f + 1, l => if l.length = 0 then [] else UInt8.ofNat (min l.length 128 - 1) :: (l.take 128 ++ plainF f (l.drop 128))
def plain (l : Bs) : Bs := plainF l.length l
theorem plainF_fuel (f : Nat) : ∀ l : Bs, l.length <= f -> plainF f l = plainF l.length l := by
 induction f using Nat.strongRecOn with
 | _ f ih =>
  intro l hl
  by_cases h0 : l.length = 0
  · have e : plainF l.length l = [] := by rw [h0]; rfl
    rw [e]
    cases f with
    | zero => rfl
    | succ f => simp [plainF, h0]
  · obtain ⟨g, rfl⟩ : ∃ g, f = g + 1 := ⟨f - 1, by omega⟩
    obtain ⟨m, hm⟩ : ∃ m, l.length = m + 1 := ⟨l.length - 1, by omega⟩
    rw [hm]
    unfold plainF
    rw [if_neg h0, if_neg h0, ih g (by omega) (l.drop 128) (by rw [List.length_drop]; omega)]
    congr 2
    rcases Nat.lt_or_ge m (g + 1) with h | h
    · exact (ih m h (l.drop 128) (by rw [List.length_drop]; omega)).symm
    · omega
theorem plain_nil : plain [] = [] := rfl
theorem plain_cons (l : Bs) (h : l.length ≠ 0) : plain l = UInt8.ofNat (min l.length 128 - 1) :: (l.take 128 ++ plain (l.drop 128)) := by
 obtain ⟨m, hm⟩ : ∃ m, l.length = m + 1 := ⟨l.length - 1, by omega⟩
 have e : plain l = plainF (m + 1) l := by unfold plain; rw [hm]
 rw [e]
 unfold plainF
 rw [if_neg h, plainF_fuel m (l.drop 128) (by rw [List.length_drop]; omega)]
 rfl
def copyN (out : Bs) (d : Nat) : Nat -> Bs
 | 0 => out
 | n + 1 => copyN (out ++ [out.getD (out.length - d) 0]) d n
def decF : Nat -> Nat -> Bs -> Bs -> Bs × Nat
 | 0, _, _, out => (out, 0)
 | f + 1, most, rest, out => match rest with
  | [] => (out, 0)
  | c :: r => if c.toNat < 128 then
   (if r.length < c.toNat + 1 then ([], 60) else if most < out.length + (c.toNat + 1) then ([], 4) else decF f most (r.drop (c.toNat + 1)) (out ++ r.take (c.toNat + 1)))
   else match r with
    | [] => ([], 60)
    | d :: r2 => if out.length < d.toNat + 1 then ([], 60) else if most < out.length + (c.toNat - 125) then ([], 4) else decF f most r2 (copyN out (d.toNat + 1) (c.toNat - 125))
def dec (most : Nat) (rest out : Bs) : Bs × Nat := decF rest.length most rest out
theorem decF_fuel (f : Nat) : ∀ (most : Nat) (rest out : Bs), rest.length <= f -> decF f most rest out = decF rest.length most rest out := by
 induction f using Nat.strongRecOn with
 | _ f ih =>
  intro most rest out hl
  match rest with
  | [] => cases f <;> rfl
  | c :: r =>
   obtain ⟨g, rfl⟩ : ∃ g, f = g + 1 := ⟨f - 1, by simp at hl; omega⟩
   have hr : r.length <= g := by simpa using hl
   have key : ∀ (r2 out2 : Bs), r2.length <= r.length -> decF g most r2 out2 = decF r.length most r2 out2 := by
    intro r2 out2 h2
    rw [ih g (by omega) most r2 out2 (by omega)]
    rcases Nat.lt_or_ge r.length (g + 1) with h | h
    · exact (ih r.length h most r2 out2 h2).symm
    · omega
   show decF (g + 1) most (c :: r) out = decF (r.length + 1) most (c :: r) out
   unfold decF
   simp only
   rw [key (r.drop (c.toNat + 1)) _ (by rw [List.length_drop]; omega)]
   match r, key with
   | [], _ => rfl
   | d :: r2, key => simp only; rw [key r2 _ (by simp)]
theorem dec_nil (most : Nat) (out : Bs) : dec most [] out = (out, 0) := rfl
theorem dec_cons (most : Nat) (c : UInt8) (r out : Bs) : dec most (c :: r) out = if c.toNat < 128 then
 (if r.length < c.toNat + 1 then ([], 60) else if most < out.length + (c.toNat + 1) then ([], 4) else dec most (r.drop (c.toNat + 1)) (out ++ r.take (c.toNat + 1)))
 else match r with
  | [] => ([], 60)
  | d :: r2 => if out.length < d.toNat + 1 then ([], 60) else if most < out.length + (c.toNat - 125) then ([], 4) else dec most r2 (copyN out (d.toNat + 1) (c.toNat - 125)) := by
 show decF (r.length + 1) most (c :: r) out = _
 unfold decF
 simp only
 rw [decF_fuel r.length most (r.drop (c.toNat + 1)) _ (by rw [List.length_drop]; omega)]
 match r with
 | [] => rfl
 | d :: r2 =>
  simp only
  rw [decF_fuel (d :: r2).length most r2 _ (by simp)]
  rfl
theorem ofNat_toNat (n : Nat) (h : n < 256) : (UInt8.ofNat n).toNat = n := by simp; omega
theorem dec_lits (most : Nat) (l rest out : Bs) (h0 : l.length ≠ 0) (h : l.length <= 128) : dec most (UInt8.ofNat (l.length - 1) :: (l ++ rest)) out = if most < out.length + l.length then ([], 4) else dec most rest (out ++ l) := by
 rw [dec_cons, ofNat_toNat _ (by omega), if_pos (by omega), if_neg (by rw [List.length_append]; omega), show l.length - 1 + 1 = l.length by omega, List.drop_left, List.take_left]
theorem dec_plain (most : Nat) (rest : Bs) (n : Nat) : ∀ (l out : Bs), l.length <= n -> out.length <= most -> dec most (plain l ++ rest) out = if most < out.length + l.length then ([], 4) else dec most rest (out ++ l) := by
 induction n using Nat.strongRecOn with
 | _ n ih =>
  intro l out hl ho
  by_cases h0 : l.length = 0
  · rw [List.eq_nil_of_length_eq_zero h0, plain_nil, if_neg (by simpa using ho)]
    simp
  · rw [plain_cons l h0]
    have e : min l.length 128 - 1 = (l.take 128).length - 1 := by rw [List.length_take]; omega
    rw [e, List.cons_append, List.append_assoc, dec_lits most (l.take 128) _ out (by rw [List.length_take]; omega) (by rw [List.length_take]; omega)]
    by_cases hm : most < out.length + (l.take 128).length
    · rw [if_pos hm, if_pos (by rw [List.length_take] at hm; omega)]
    · rw [if_neg hm]
      by_cases hs : l.length <= 128
      · rw [List.drop_of_length_le hs, plain_nil, List.take_of_length_le hs] at *
        rw [List.nil_append, if_neg hm]
      · have h1 : (l.drop 128).length < n := by rw [List.length_drop]; omega
        rw [ih _ h1 (l.drop 128) (out ++ l.take 128) (Nat.le_refl _) (by rw [List.length_append]; omega)]
        have e2 : (out ++ l.take 128).length + (l.drop 128).length = out.length + l.length := by rw [List.length_append, List.length_take, List.length_drop]; omega
        rw [e2, List.append_assoc, List.take_append_drop]
theorem copyN_take (b : Bs) (d : Nat) (hd : 1 <= d) : ∀ (n i : Nat), d <= i -> i + n <= b.length -> (∀ k, k < n -> by' b (i + k) = by' b (i + k - d)) -> copyN (b.take i) d n = b.take (i + n) := by
 intro n
 induction n with
 | zero => intro i _ _ _; rfl
 | succ n ih =>
  intro i hdi hl h
  have hil : i < b.length := by omega
  have e0 : (b.take i).length = i := by rw [List.length_take]; omega
  have e : b.take i ++ [(b.take i).getD ((b.take i).length - d) 0] = b.take (i + 1) := by
   rw [List.take_succ_eq_append_getElem hil, e0]
   congr 2
   have h1 := h 0 (by omega)
   unfold by' at h1
   rw [Nat.add_zero] at h1
   have h2 : (b.take i).getD (i - d) 0 = b.getD (i - d) 0 := by
    rw [List.getD_eq_getElem?_getD, List.getD_eq_getElem?_getD, List.getElem?_take_of_lt (by omega)]
   rw [h2, <- h1]
   simp [hil]
  show copyN (b.take i ++ [(b.take i).getD ((b.take i).length - d) 0]) d n = _
  rw [e, ih (i + 1) (by omega) (by omega) (fun k hk => by
   have := h (k + 1) (by omega)
   rw [show i + (k + 1) = i + 1 + k by omega] at this
   exact this), show i + 1 + n = i + (n + 1) by omega]
def encF : Nat -> Bs -> Nat -> Nat -> Bs
 | 0, b, fr, _ => plain (b.drop fr)
 | f + 1, b, fr, i => if i < b.length then
  (if (longest b i).2 = 0 \/ (longest b i).2 < (longest b (i + 1)).2 then encF f b fr (i + 1)
   else plain ((b.take i).drop fr) ++ (UInt8.ofNat (128 + (longest b i).2 - 3) :: UInt8.ofNat ((longest b i).1 - 1) :: encF f b (i + (longest b i).2) (i + (longest b i).2)))
  else plain (b.drop fr)
def enc (b : Bs) : Bs := encF b.length b 0 0
theorem encF_fuel (f : Nat) : ∀ (b : Bs) (fr i : Nat), b.length - i <= f -> encF f b fr i = encF (b.length - i) b fr i := by
 induction f using Nat.strongRecOn with
 | _ f ih =>
  intro b fr i hl
  by_cases hi : i < b.length
  · obtain ⟨g, rfl⟩ : ∃ g, f = g + 1 := ⟨f - 1, by omega⟩
    obtain ⟨m, hm⟩ : ∃ m, b.length - i = m + 1 := ⟨b.length - i - 1, by omega⟩
    rw [hm]
    have key : ∀ fr' i', i + 1 <= i' -> encF g b fr' i' = encF m b fr' i' := by
     intro fr' i' h'
     rw [ih g (by omega) b fr' i' (by omega)]
     rcases Nat.lt_or_ge m (g + 1) with h | h
     · exact (ih m h b fr' i' (by omega)).symm
     · omega
    unfold encF
    rw [if_pos hi, if_pos hi, key fr (i + 1) (Nat.le_refl _)]
    by_cases hc : (longest b i).2 = 0 \/ (longest b i).2 < (longest b (i + 1)).2
    · rw [if_pos hc, if_pos hc]
    · rw [if_neg hc, if_neg hc, key _ (i + (longest b i).2) (by omega)]
  · have e : b.length - i = 0 := by omega
    rw [e]
    cases f with
    | zero => rfl
    | succ f => unfold encF; rw [if_neg hi]
theorem enc_end (b : Bs) (fr i : Nat) (hi : ¬ i < b.length) : encF (b.length - i) b fr i = plain (b.drop fr) := by
 rw [show b.length - i = 0 by omega]; rfl
theorem enc_lit (b : Bs) (fr i : Nat) (hi : i < b.length) (h : (longest b i).2 = 0 \/ (longest b i).2 < (longest b (i + 1)).2) : encF (b.length - i) b fr i = encF (b.length - (i + 1)) b fr (i + 1) := by
 obtain ⟨m, hm⟩ : ∃ m, b.length - i = m + 1 := ⟨b.length - i - 1, by omega⟩
 rw [hm, show b.length - (i + 1) = m by omega]
 conv => lhs; unfold encF
 rw [if_pos hi, if_pos h]
theorem enc_match (b : Bs) (fr i : Nat) (hi : i < b.length) (h : ¬ ((longest b i).2 = 0 \/ (longest b i).2 < (longest b (i + 1)).2)) :
 encF (b.length - i) b fr i = plain ((b.take i).drop fr) ++ (UInt8.ofNat (128 + (longest b i).2 - 3) :: UInt8.ofNat ((longest b i).1 - 1) :: encF (b.length - (i + (longest b i).2)) b (i + (longest b i).2) (i + (longest b i).2)) := by
 obtain ⟨m, hm⟩ : ∃ m, b.length - i = m + 1 := ⟨b.length - i - 1, by omega⟩
 rw [hm]
 conv => lhs; unfold encF
 rw [if_pos hi, if_neg h, encF_fuel m b _ (i + (longest b i).2) (by omega)]
theorem dec_enc (b : Bs) (most : Nat) : ∀ (k fr i : Nat), b.length - i <= k -> fr <= i -> i <= b.length -> fr <= most -> dec most (encF (b.length - i) b fr i) (b.take fr) = if most < b.length then ([], 4) else (b, 0) := by
 intro k
 induction k using Nat.strongRecOn with
 | _ k ih =>
  intro fr i hk hfr hib hm
  have e0 : (b.take fr).length = fr := by rw [List.length_take]; omega
  by_cases hi : i < b.length
  · by_cases hc : (longest b i).2 = 0 \/ (longest b i).2 < (longest b (i + 1)).2
    · rw [enc_lit b fr i hi hc]
      exact ih (b.length - (i + 1)) (by omega) fr (i + 1) (Nat.le_refl _) (by omega) (by omega) hm
    · obtain ⟨d, n, hdn⟩ : ∃ d n, longest b i = (d, n) := ⟨_, _, rfl⟩
      rw [enc_match b fr i hi hc, hdn]
      rw [hdn] at hc
      simp only at hc ⊢
      obtain ⟨a1, a2, a3, a4, a5, a6, a7, _⟩ := longest_runs b i d n hdn (by omega)
      have el : ((b.take i).drop fr).length = i - fr := by rw [List.length_drop, List.length_take]; omega
      have et : b.take fr ++ (b.take i).drop fr = b.take i := by
       have h1 : b.take fr = (b.take i).take fr := by rw [List.take_take, Nat.min_eq_left hfr]
       rw [h1, List.take_append_drop]
      rw [dec_plain most _ _ ((b.take i).drop fr) (b.take fr) (Nat.le_refl _) (by omega), e0, el, et, show fr + (i - fr) = i by omega]
      by_cases hmi : most < i
      · rw [if_pos hmi, if_pos (by omega)]
      · rw [if_neg hmi, dec_cons, ofNat_toNat _ (by omega), if_neg (by omega)]
        simp only
        have e1 : (b.take i).length = i := by rw [List.length_take]; omega
        rw [ofNat_toNat _ (by omega), e1, if_neg (by omega), show d - 1 + 1 = d by omega, show 128 + n - 3 - 125 = n by omega]
        by_cases hmn : most < i + n
        · rw [if_pos hmn, if_pos (by omega)]
        · rw [if_neg hmn, copyN_take b d a1 n i a3 a6 a7]
          exact ih (b.length - (i + n)) (by omega) (i + n) (i + n) (Nat.le_refl _) (Nat.le_refl _) a6 (by omega)
  · rw [enc_end b fr i hi]
    have h := dec_plain most [] _ (b.drop fr) (b.take fr) (Nat.le_refl _) (by omega)
    rw [List.append_nil] at h
    rw [h, e0, List.length_drop, List.take_append_drop, show fr + (b.length - fr) = b.length by omega, dec_nil]
def pack (b : Bs) : Bs := if (enc b).length < b.length then 1 :: enc b else 0 :: b
def unpack (p : Bs) (most : Nat) : Bs × Nat := match p with
 | [] => ([], 60)
 | c :: r => if 1 < c.toNat then ([], 60) else if c.toNat = 0 then (if most < r.length then ([], 4) else (r, 0)) else dec most r []
theorem unpack_one (r : Bs) (most : Nat) : unpack (1 :: r) most = dec most r [] := by
 unfold unpack
 simp only
 rw [if_neg (by decide), if_neg (by decide)]
theorem unpack_zero (r : Bs) (most : Nat) : unpack (0 :: r) most = if most < r.length then ([], 4) else (r, 0) := by
 unfold unpack
 simp only
 rw [if_neg (by decide), if_pos (by decide)]
theorem unpack_pack (b : Bs) (most : Nat) : unpack (pack b) most = if most < b.length then ([], 4) else (b, 0) := by
 unfold pack
 split
 · rw [unpack_one]
   exact dec_enc b most _ 0 0 (Nat.le_refl _) (Nat.le_refl _) (Nat.zero_le _) (Nat.zero_le _)
 · rw [unpack_zero]
theorem pack_len (b : Bs) : (pack b).length <= b.length + 1 := by
 unfold pack; split <;> simp <;> omega
theorem longest_le (b : Bs) (i : Nat) : (longest b i).2 = 0 \/ 3 <= (longest b i).2 /\ i + (longest b i).2 <= b.length := by
 obtain ⟨d, n, h⟩ : ∃ d n, longest b i = (d, n) := ⟨_, _, rfl⟩
 rw [h]
 by_cases h0 : n = 0
 · exact .inl h0
 · have := longest_runs b i d n h (by omega)
   exact .inr ⟨this.2.2.2.1, this.2.2.2.2.2.1⟩
theorem copyN_len (d : Nat) : ∀ (n : Nat) (out : Bs), (copyN out d n).length = out.length + n := by
 intro n
 induction n with
 | zero => intro out; rfl
 | succ n ih =>
  intro out
  show (copyN (out ++ [out.getD (out.length - d) 0]) d n).length = _
  rw [ih, List.length_append, List.length_cons, List.length_nil]; omega
theorem copyN_pre (d : Nat) : ∀ (n : Nat) (out : Bs) (k : Nat), k < out.length -> (copyN out d n).getD k 0 = out.getD k 0 := by
 intro n
 induction n with
 | zero => intro out k _; rfl
 | succ n ih =>
  intro out k hk
  show (copyN (out ++ [out.getD (out.length - d) 0]) d n).getD k 0 = _
  rw [ih _ k (by rw [List.length_append]; omega), List.getD_eq_getElem?_getD, List.getD_eq_getElem?_getD, List.getElem?_append_left hk]
  rw [List.getD_eq_getElem?_getD]
theorem copyN_at (d : Nat) (hd : 1 <= d) : ∀ (n : Nat) (out : Bs), d <= out.length -> ∀ k, out.length <= k -> k < out.length + n -> (copyN out d n).getD k 0 = (copyN out d n).getD (k - d) 0 := by
 intro n
 induction n with
 | zero => intro out _ k h1 h2; omega
 | succ n ih =>
  intro out hdl k h1 h2
  have el : (out ++ [out.getD (out.length - d) 0]).length = out.length + 1 := by rw [List.length_append]; rfl
  show (copyN (out ++ [out.getD (out.length - d) 0]) d n).getD k 0 = (copyN (out ++ [out.getD (out.length - d) 0]) d n).getD (k - d) 0
  by_cases hk : k = out.length
  · subst hk
    rw [copyN_pre d n _ out.length (by rw [el]; omega), copyN_pre d n _ (out.length - d) (by rw [el]; omega)]
    rw [List.getD_eq_getElem?_getD, List.getElem?_append_right (Nat.le_refl _), List.getD_eq_getElem?_getD, List.getD_eq_getElem?_getD, List.getElem?_append_left (by omega)]
    simp
  · exact ih _ (by rw [el]; omega) k (by rw [el]; omega) (by rw [el]; omega)
theorem plain_len2 : ∀ (n : Nat) (l : Bs), l.length <= n -> (plain l).length <= 2 * l.length
 | 0, l, h => by rw [List.eq_nil_of_length_eq_zero (show l.length = 0 by omega)]; simp [plain_nil]
 | n + 1, l, h => by
  by_cases h0 : l.length = 0
  · rw [List.eq_nil_of_length_eq_zero h0]; simp [plain_nil]
  · rw [plain_cons l h0]
    have := plain_len2 n (l.drop 128) (by rw [List.length_drop]; omega)
    rw [List.length_drop] at this
    simp only [List.length_cons, List.length_append, List.length_take]
    omega
theorem longest_out (b : Bs) (i : Nat) (h : b.length <= i) : longest b i = (0, 0) := by
 have e : dmax b i = 0 := by unfold dmax; rw [if_neg (by omega)]
 unfold longest
 rw [e]
 rfl
theorem encF_len (b : Bs) : ∀ (k fr i : Nat), b.length - i <= k -> fr <= i -> i <= b.length -> (encF (b.length - i) b fr i).length <= 2 * (b.length - fr) := by
 intro k
 induction k using Nat.strongRecOn with
 | _ k ih =>
  intro fr i hk hfr hib
  by_cases hi : i < b.length
  · by_cases hc : (longest b i).2 = 0 \/ (longest b i).2 < (longest b (i + 1)).2
    · rw [enc_lit b fr i hi hc]
      exact ih (b.length - (i + 1)) (by omega) fr (i + 1) (Nat.le_refl _) (by omega) (by omega)
    · rw [enc_match b fr i hi hc]
      have h3 := longest_le b i
      have h1 := plain_len2 _ ((b.take i).drop fr) (Nat.le_refl _)
      have h2 := ih (b.length - (i + (longest b i).2)) (by omega) (i + (longest b i).2) (i + (longest b i).2) (Nat.le_refl _) (Nat.le_refl _) (by omega)
      rw [List.length_drop, List.length_take] at h1
      simp only [List.length_append, List.length_cons]
      omega
  · rw [enc_end b fr i hi]
    have h1 := plain_len2 _ (b.drop fr) (Nat.le_refl _)
    rw [List.length_drop] at h1
    exact h1
theorem enc_len (b : Bs) : (enc b).length <= 2 * b.length := encF_len b b.length 0 0 (Nat.le_refl _) (Nat.le_refl _) (Nat.zero_le _)
theorem dec_at (most : Nat) (p out : Bs) (i : Nat) (h : i < p.length) : dec most (p.drop i) out = dec most (p.getD i 0 :: p.drop (i + 1)) out := by
 rw [List.drop_eq_getElem_cons h]
 simp [List.getD, h]
theorem dec_lit_long (most : Nat) (p out : Bs) (i : Nat) (h : i < p.length) (c : UInt8) (hc : p.getD i 0 = c) (h1 : c.toNat < 128) (h2 : p.length - (i + 1) < c.toNat + 1) : dec most (p.drop i) out = ([], 60) := by
 rw [dec_at most p out i h, hc, dec_cons, if_pos h1, if_pos (by rw [List.length_drop]; exact h2)]
theorem dec_lit_most (most : Nat) (p out : Bs) (i : Nat) (h : i < p.length) (c : UInt8) (hc : p.getD i 0 = c) (h1 : c.toNat < 128) (h2 : ¬ p.length - (i + 1) < c.toNat + 1) (h3 : most < out.length + (c.toNat + 1)) : dec most (p.drop i) out = ([], 4) := by
 rw [dec_at most p out i h, hc, dec_cons, if_pos h1, if_neg (by rw [List.length_drop]; exact h2), if_pos h3]
theorem dec_lit_ok (most : Nat) (p out : Bs) (i : Nat) (h : i < p.length) (c : UInt8) (hc : p.getD i 0 = c) (h1 : c.toNat < 128) (h2 : ¬ p.length - (i + 1) < c.toNat + 1) (h3 : ¬ most < out.length + (c.toNat + 1)) :
 dec most (p.drop i) out = dec most (p.drop (i + 1 + (c.toNat + 1))) (out ++ (p.take (i + 1 + (c.toNat + 1))).drop (i + 1)) := by
 rw [dec_at most p out i h, hc, dec_cons, if_pos h1, if_neg (by rw [List.length_drop]; exact h2), if_neg h3, List.drop_drop, List.drop_take]
 rw [show i + 1 + (c.toNat + 1) - (i + 1) = c.toNat + 1 by omega]
theorem dec_ref_end (most : Nat) (p out : Bs) (i : Nat) (h : i + 1 = p.length) (c : UInt8) (hc : p.getD i 0 = c) (h1 : ¬ c.toNat < 128) : dec most (p.drop i) out = ([], 60) := by
 rw [dec_at most p out i (by omega), hc, dec_cons, if_neg h1, List.drop_of_length_le (by omega)]
theorem dec_ref (most : Nat) (p out : Bs) (i : Nat) (h : i + 1 < p.length) (c d : UInt8) (hc : p.getD i 0 = c) (hd : p.getD (i + 1) 0 = d) (h1 : ¬ c.toNat < 128) :
 dec most (p.drop i) out = if out.length < d.toNat + 1 then ([], 60) else if most < out.length + (c.toNat - 125) then ([], 4) else dec most (p.drop (i + 2)) (copyN out (d.toNat + 1) (c.toNat - 125)) := by
 rw [dec_at most p out i (by omega), hc, dec_cons, if_neg h1]
 rw [List.drop_eq_getElem_cons h]
 have e : p[i + 1] = d := by rw [<- hd]; simp [List.getD, h]
 rw [e]
end Go.LzM
end
section
namespace Go.KecM
abbrev W := BitVec 64
def rot (w : W) (n : Nat) : W := (w <<< n) ||| (w >>> (64 - n))
abbrev St := List W
def at' (s : St) (x y : Nat) : W := s.getD (x % 5 + 5 * (y % 5)) 0
def mk (f : Nat -> Nat -> W) : St := (List.range 25).map fun i => f (i % 5) (i / 5)
theorem mk_len (f : Nat -> Nat -> W) : (mk f).length = 25 := by simp [mk]
theorem mk_get (f : Nat -> Nat -> W) (i : Nat) (hi : i < 25) : (mk f).getD i 0 = f (i % 5) (i / 5) := by simp [mk, hi]
theorem mk_at (f : Nat -> Nat -> W) (x y : Nat) : at' (mk f) x y = f (x % 5) (y % 5) := by
 unfold at'
 rw [mk_get _ _ (by omega)]
 congr 1 <;> omega
def turns : List Nat := [0, 1, 62, 28, 27, 36, 44, 6, 55, 20, 3, 10, 43, 25, 39, 41, 45, 15, 21, 8, 18, 2, 61, 56, 14]
def turn (x y : Nat) : Nat := turns.getD (x % 5 + 5 * (y % 5)) 0
theorem turn_lt (x y : Nat) : turn x y < 64 := by
 have : ∀ i : Fin 25, turns.getD i.val 0 < 64 := by decide
 exact this ⟨x % 5 + 5 * (y % 5), by omega⟩
def par (s : St) (x : Nat) : W := at' s x 0 ^^^ at' s x 1 ^^^ at' s x 2 ^^^ at' s x 3 ^^^ at' s x 4
def theta (s : St) : St := mk fun x y => at' s x y ^^^ par s (x + 4) ^^^ rot (par s (x + 1)) 1
def rhopi (s : St) : St := mk fun x y => rot (at' s (x + 3 * y) x) (turn (x + 3 * y) x)
def chi (s : St) : St := mk fun x y => at' s x y ^^^ (at' s (x + 2) y &&& ~~~ (at' s (x + 1) y))
def iota (m : W) (s : St) : St := s.set 0 (s.getD 0 0 ^^^ m)
def roundM (m : W) (s : St) : St := iota m (chi (rhopi (theta s)))
theorem roundM_len (m : W) (s : St) : (roundM m s).length = 25 := by simp [roundM, iota, chi, mk_len]
def lf (r : Nat) : Nat := if 2 * r >= 256 then (2 * r) ^^^ 369 else 2 * r
def lfs : Nat -> Nat
 | 0 => 1
 | t + 1 => lf (lfs t)
def cbit (t : Nat) : Nat := lfs t % 2
def kmark (round : Nat) : Nat := ((List.range 7).map fun j => cbit ((j + 7 * (round % 255)) % 255) * 2 ^ (2 ^ j - 1)).sum
def markW (round : Nat) : W := BitVec.ofNat 64 (kmark round)
def roundN (round : Nat) (s : St) : St := roundM (markW round) s
def perm : Nat -> St -> St
 | 0, s => s
 | n + 1, s => roundN n (perm n s)
theorem perm_len (n : Nat) (s : St) (hs : s.length = 25) : (perm n s).length = 25 := by
 cases n with
 | zero => exact hs
 | succ n => exact roundM_len _ _
end Go.KecM
end
section
namespace Go.SpoM
open Go.KecM
def xorAt (s : St) (i : Nat) (c : UInt8) : St := s.set (i / 8) (s.getD (i / 8) 0 ^^^ (BitVec.ofNat 64 c.toNat <<< (8 * (i % 8))))
theorem xorAt_len (s : St) (i : Nat) (c : UInt8) : (xorAt s i c).length = s.length := by simp [xorAt]
def feed1 (q : St × Nat) (c : UInt8) : St × Nat := if q.2 = 135 then (perm 24 (xorAt q.1 135 c), 0) else (xorAt q.1 q.2 c, q.2 + 1)
def feed (q : St × Nat) (b : List UInt8) : St × Nat := b.foldl feed1 q
def zeroSt : St := List.replicate 25 0
def fin (q : St × Nat) : St := perm 24 (xorAt (xorAt q.1 q.2 6) 135 128)
def byteOf (s : St) (i : Nat) : UInt8 := UInt8.ofNat ((s.getD (i / 8) 0).toNat / 2 ^ (8 * (i % 8)))
def squeeze (s : St) : List UInt8 := (List.range 32).map (byteOf s)
def sha (b : List UInt8) : List UInt8 := squeeze (fin (feed (zeroSt, 0) b))
theorem squeeze_len (s : St) : (squeeze s).length = 32 := by simp [squeeze]
theorem sha_len (b : List UInt8) : (sha b).length = 32 := squeeze_len _
theorem feed_append (q : St × Nat) (a b : List UInt8) : feed q (a ++ b) = feed (feed q a) b := List.foldl_append
theorem feed1_len (q : St × Nat) (c : UInt8) (h : q.1.length = 25) : (feed1 q c).1.length = 25 := by
 unfold feed1
 split
 · exact perm_len _ _ (by rw [xorAt_len]; exact h)
 · show (xorAt q.1 q.2 c).length = 25
   rw [xorAt_len]; exact h
theorem feed_len (b : List UInt8) : ∀ (q : St × Nat), q.1.length = 25 -> (feed q b).1.length = 25 := by
 induction b with
 | nil => intro q h; exact h
 | cons c b ih => intro q h; exact ih _ (feed1_len q c h)
theorem feed_pos (b : List UInt8) : ∀ (q : St × Nat), q.2 < 136 -> (feed q b).2 = (q.2 + b.length) % 136 /\ (feed q b).2 < 136 := by
 induction b with
 | nil => intro q h; exact ⟨(Nat.mod_eq_of_lt h).symm, h⟩
 | cons c b ih =>
  intro q h
  have h1 : (feed1 q c).2 = (q.2 + 1) % 136 /\ (feed1 q c).2 < 136 := by
   unfold feed1
   split
   · rename_i e; rw [e]; exact ⟨rfl, by show 0 < 136; omega⟩
   · show q.2 + 1 = (q.2 + 1) % 136 /\ q.2 + 1 < 136
     exact ⟨(Nat.mod_eq_of_lt (by omega)).symm, by omega⟩
  have h2 := ih (feed1 q c) h1.2
  refine ⟨h2.1.trans ?_, h2.2⟩
  rw [h1.1, List.length_cons]
  omega
theorem take_succ' (l : List UInt8) (i : Nat) (h : i < l.length) : l.take (i + 1) = l.take i ++ [l.getD i 0] := by
 rw [List.take_succ_eq_append_getElem h]
 simp [h]
def padTail (p : Nat) : List UInt8 := if p = 135 then [134] else 6 :: (List.replicate (134 - p) 0 ++ [128])
def padded (b : List UInt8) : List UInt8 := b ++ padTail (b.length % 136)
def sqTo (s : St) (i : Nat) : List UInt8 := (List.range 32).map fun j => if j < i then byteOf s j else 0
theorem sqTo_len (s : St) (i : Nat) : (sqTo s i).length = 32 := by simp [sqTo]
theorem sqTo_zero (s : St) : sqTo s 0 = List.replicate 32 0 := by
 apply List.ext_getElem
 · simp [sqTo]
 · intro j h1 h2
   simp only [sqTo, List.getElem_map, List.getElem_replicate, Nat.not_lt_zero, if_false]
theorem sqTo_all (s : St) : sqTo s 32 = squeeze s := by
 apply List.ext_getElem
 · simp [sqTo, squeeze]
 · intro j h1 h2
   have hj : j < 32 := by simpa [sqTo] using h1
   simp [sqTo, squeeze, hj]
theorem sqTo_set (s : St) (i : Nat) : (sqTo s i).set i (byteOf s i) = sqTo s (i + 1) := by
 apply List.ext_getElem
 · simp [sqTo]
 · intro j h1 h2
   by_cases hj : j = i
   · subst hj; simp [sqTo]
   · rw [List.getElem_set_ne (Ne.symm hj)]
     simp only [sqTo, List.getElem_map, List.getElem_range]
     by_cases h : j < i
     · rw [if_pos h, if_pos (by omega)]
     · rw [if_neg h, if_neg (by omega)]
end Go.SpoM
end
section
namespace Go.PagM
abbrev Bs := List UInt8
structure Frm where
 kind : UInt8
 first : Bool
 last : Bool
 data : Bs
def zeroF : Frm := ⟨0, false, false, []⟩
def headN (f : Frm) : Nat := f.kind.toNat + (if f.first then 64 else 0) + (if f.last then 128 else 0)
def laid (f : Frm) : Bs := UInt8.ofNat (headN f) :: UInt8.ofNat f.data.length :: (f.data ++ (List.replicate (125 - f.data.length) 0 ++ [90]))
def layE (f : Frm) : Nat := if 63 < f.kind.toNat then 1 else if 125 < f.data.length then 4 else 0
def lay (f : Frm) : Bs × Nat := if layE f = 0 then (laid f, 0) else ([], layE f)
theorem laid_len (f : Frm) (h : f.data.length <= 125) : (laid f).length = 128 := by
 unfold laid; simp; omega
def guess (b : Bs) : Frm := ⟨UInt8.ofNat ((b.getD 0 0).toNat % 64), decide ((b.getD 0 0).toNat / 64 % 2 = 1), decide ((b.getD 0 0).toNat / 128 = 1), (b.drop 2).take (b.getD 1 0).toNat⟩
def isPage (b : Bs) : Bool := decide (b.length = 128) && decide ((b.getD 1 0).toNat <= 125) && decide (laid (guess b) = b)
def take (b : Bs) : Frm × Nat := if isPage b then (guess b, 0) else (zeroF, 90)
theorem ofNat_toNat (n : Nat) (h : n < 256) : (UInt8.ofNat n).toNat = n := by simp; omega
theorem headN_lt {f : Frm} (h : f.kind.toNat <= 63) : headN f < 256 := by unfold headN; split <;> split <;> omega
theorem laid_0 (f : Frm) : (laid f).getD 0 0 = UInt8.ofNat (headN f) := rfl
theorem laid_1 (f : Frm) : (laid f).getD 1 0 = UInt8.ofNat f.data.length := rfl
theorem guess_laid {f : Frm} (h1 : f.kind.toNat <= 63) (h2 : f.data.length <= 125) : guess (laid f) = f := by
 have e0 : (UInt8.ofNat (headN f)).toNat = headN f := ofNat_toNat _ (headN_lt h1)
 have e1 : (UInt8.ofNat f.data.length).toNat = f.data.length := ofNat_toNat _ (by omega)
 obtain ⟨k, a, z, d⟩ := f
 unfold guess
 rw [laid_0, laid_1, e0, e1]
 simp only at h1 h2
 have hk : headN ⟨k, a, z, d⟩ % 64 = k.toNat /\ decide (headN ⟨k, a, z, d⟩ / 64 % 2 = 1) = a /\ decide (headN ⟨k, a, z, d⟩ / 128 = 1) = z := by
  unfold headN
  cases a <;> cases z <;> simp <;> omega
 obtain ⟨q1, q2, q3⟩ := hk
 rw [q1, q2, q3]
 congr 1
 · simp
 · unfold laid
   simp
theorem isPage_laid {f : Frm} (h1 : f.kind.toNat <= 63) (h2 : f.data.length <= 125) : isPage (laid f) = true := by
 unfold isPage
 rw [guess_laid h1 h2, laid_len f h2, laid_1, ofNat_toNat _ (by omega)]
 simp [h2]
theorem take_laid {f : Frm} (h1 : f.kind.toNat <= 63) (h2 : f.data.length <= 125) : take (laid f) = (f, 0) := by
 unfold take; rw [if_pos (isPage_laid h1 h2), guess_laid h1 h2]
theorem isPage_props {b : Bs} (h : isPage b = true) : b.length = 128 /\ (b.getD 1 0).toNat <= 125 /\ laid (guess b) = b := by
 unfold isPage at h
 simp only [Bool.and_eq_true, decide_eq_true_eq] at h
 exact ⟨h.1.1, h.1.2, h.2⟩
theorem guess_small (b : Bs) (h : b.length = 128) (h1 : (b.getD 1 0).toNat <= 125) : (guess b).kind.toNat <= 63 /\ (guess b).data.length = (b.getD 1 0).toNat := by
 unfold guess
 refine ⟨?_, ?_⟩
 · simp only; rw [ofNat_toNat _ (by omega)]; omega
 · simp only [List.length_take, List.length_drop, h]; omega
theorem last_laid (f : Frm) (h : f.data.length <= 125) : (laid f).getD 127 0 = 90 := by
 show (UInt8.ofNat (headN f) :: UInt8.ofNat f.data.length :: (f.data ++ (List.replicate (125 - f.data.length) 0 ++ [90]))).getD (125 + 1 + 1) 0 = 90
 rw [List.getD_cons_succ, List.getD_cons_succ, List.getD_eq_getElem?_getD, List.getElem?_append_right (by omega), List.getElem?_append_right (by simp)]
 simp
theorem isPage_last {b : Bs} (h : isPage b = true) : b.getD 127 0 = 90 := by
 obtain ⟨h1, h2, h3⟩ := isPage_props h
 obtain ⟨_, g2⟩ := guess_small b h1 h2
 rw [<- h3]
 exact last_laid _ (by omega)
theorem torn {b : Bs} (k : Nat) (hk : k < 128) (hb : b.length = 128) : isPage (b.take k ++ (List.replicate 128 255).drop k) = false := by
 cases h : isPage (b.take k ++ (List.replicate 128 255).drop k) with
 | false => rfl
 | true =>
  have := isPage_last h
  rw [List.getD_eq_getElem?_getD, List.getElem?_append_right (by simp; omega)] at this
  simp only [List.length_take, hb, List.getElem?_drop, List.getElem?_replicate] at this
  rw [if_pos (by omega)] at this
  simp at this
def pagesF (kind : UInt8) : Nat -> Bool -> Bs -> List Bs
 | 0, _, _ => []
 | n + 1, first, b => laid ⟨kind, first, decide (b.length <= 125), b.take 125⟩ :: (if b.length <= 125 then [] else pagesF kind n false (b.drop 125))
def pages (kind : UInt8) (b : Bs) : List Bs := pagesF kind (b.length / 125 + 1) true b
def splitE (kind : UInt8) (b : Bs) : Nat := if 63 < kind.toNat then 1 else if 8000 < b.length then 4 else 0
def split (kind : UInt8) (b : Bs) : List Bs × Nat := if splitE kind b = 0 then (pages kind b, 0) else ([], splitE kind b)
theorem pagesF_fuel (kind : UInt8) : ∀ (n m : Nat) (first : Bool) (b : Bs), b.length / 125 < n -> b.length / 125 < m -> pagesF kind n first b = pagesF kind m first b
 | 0, _, _, b, h, _ => by omega
 | _, 0, _, b, _, h => by omega
 | n + 1, m + 1, first, b, h1, h2 => by
  unfold pagesF
  congr 1
  split
  · rfl
  · rename_i hb
    exact pagesF_fuel kind n m false (b.drop 125) (by rw [List.length_drop]; omega) (by rw [List.length_drop]; omega)
def rest (kind : UInt8) (first : Bool) (b : Bs) : List Bs := pagesF kind (b.length / 125 + 1) first b
theorem rest_step (kind : UInt8) (first : Bool) (b : Bs) : rest kind first b = laid ⟨kind, first, decide (b.length <= 125), b.take 125⟩ :: (if b.length <= 125 then [] else rest kind false (b.drop 125)) := by
 unfold rest
 conv => lhs; unfold pagesF
 congr 1
 split
 · rfl
 · exact pagesF_fuel kind _ _ false _ (by rw [List.length_drop]; omega) (by omega)
def joinF : Nat -> UInt8 -> Bs -> List Bs -> (UInt8 × Bs × Nat) × Nat
 | _, _, _, [] => ((0, [], 0), 90)
 | i, k, all, p :: l => if 64 <= i then ((0, [], 0), 90)
  else if !isPage p || (guess p).first != decide (i = 0) || (decide (0 < i) && (guess p).kind != k) || (!(guess p).last && decide ((guess p).data.length ≠ 125)) then ((0, [], 0), 90)
  else if (guess p).last then (((guess p).kind, all ++ (guess p).data, i + 1), 0)
  else joinF (i + 1) (guess p).kind (all ++ (guess p).data) l
def join (l : List Bs) : (UInt8 × Bs × Nat) × Nat := joinF 0 0 [] l
theorem joinF_page (i : Nat) (k : UInt8) (all : Bs) (f : Frm) (l : List Bs) (h1 : f.kind.toNat <= 63) (h2 : f.data.length <= 125) (hi : i < 64) (hf : f.first = decide (i = 0)) (hk : 0 < i -> f.kind = k) (hl : f.last = false -> f.data.length = 125) :
 joinF i k all (laid f :: l) = if f.last then ((f.kind, all ++ f.data, i + 1), 0) else joinF (i + 1) f.kind (all ++ f.data) l := by
 rw [joinF, guess_laid h1 h2, isPage_laid h1 h2, if_neg (by omega), if_neg ?_]
 rw [hf]
 simp
 refine ⟨fun h0 => hk h0, fun h => ?_⟩
 exact hl h
theorem join_rest (kind : UInt8) (hk : kind.toNat <= 63) (behind : List Bs) : ∀ (n : Nat) (i : Nat) (all b : Bs), b.length <= 125 * n -> b.length + 125 * i <= 8000 -> i < 64 ->
 joinF i kind all (rest kind (decide (i = 0)) b ++ behind) = ((kind, all ++ b, i + (rest kind (decide (i = 0)) b).length), 0) := by
 intro n
 induction n with
 | zero =>
  intro i all b hb _ hi
  have h0 : b = [] := List.eq_nil_of_length_eq_zero (by omega)
  subst h0
  rw [rest_step]
  simp only [List.length_nil, Nat.zero_le, decide_true, if_true, List.cons_append, List.nil_append]
  rw [joinF_page i kind all _ behind hk (by simp) hi rfl (fun _ => rfl) (by simp)]
  simp
 | succ n ih =>
  intro i all b hb hl hi
  rw [rest_step, List.cons_append, joinF_page i kind all _ _ hk (by simp; omega) hi rfl (fun _ => rfl) (by simp; omega)]
  by_cases h : b.length <= 125
  · simp [h, List.take_of_length_le h]
  · have hi1 : decide (i + 1 = 0) = false := by simp
    have := ih (i + 1) (all ++ b.take 125) (b.drop 125) (by rw [List.length_drop]; omega) (by rw [List.length_drop]; omega) (by omega)
    rw [hi1] at this
    simp only [h, decide_false, if_false, Bool.false_eq_true]
    rw [this, List.append_assoc, List.take_append_drop, List.length_cons, Nat.add_assoc, Nat.add_comm 1]
theorem join_split (kind : UInt8) (b : Bs) (hk : kind.toNat <= 63) (hb : b.length <= 8000) (behind : List Bs) : join (pages kind b ++ behind) = ((kind, b, (pages kind b).length), 0) := by
 have := join_rest kind hk behind (b.length / 125 + 1) 0 [] b (by omega) (by omega) (by omega)
 rw [show decide (0 = 0) = true from rfl] at this
 have e : joinF 0 kind [] (rest kind true b ++ behind) = join (pages kind b ++ behind) := by
  show _ = joinF 0 0 [] (rest kind true b ++ behind)
  rw [rest_step, List.cons_append]
  rw [joinF_page 0 kind [] _ _ hk (by simp; omega) (by omega) rfl (by omega) (by simp; omega), joinF_page 0 0 [] _ _ hk (by simp; omega) (by omega) rfl (by omega) (by simp; omega)]
 rw [<- e, this]
 simp only [List.nil_append, Nat.zero_add]
 rfl
theorem join_cut (kind : UInt8) (hk : kind.toNat <= 63) : ∀ (c : Nat) (i : Nat) (all b : Bs), c < (rest kind (decide (i = 0)) b).length -> joinF i kind all ((rest kind (decide (i = 0)) b).take c) = ((0, [], 0), 90) := by
 intro c
 induction c with
 | zero => intro i all b _; rfl
 | succ c ih =>
  intro i all b hc
  rw [rest_step] at hc ⊢
  by_cases h : b.length <= 125
  · rw [if_pos h] at hc; simp at hc
  · rw [if_neg h] at hc ⊢
    rw [List.take_succ_cons]
    by_cases hi : i < 64
    · rw [joinF_page i kind all _ _ hk (by simp; omega) hi rfl (fun _ => rfl) (by simp; omega)]
      simp only [h, decide_false, if_false, Bool.false_eq_true]
      have hi1 : decide (i + 1 = 0) = false := by simp
      have := ih (i + 1) (all ++ b.take 125) (b.drop 125) (by rw [hi1]; simpa using hc)
      rw [hi1] at this
      exact this
    · rw [joinF, if_pos (by omega)]
theorem join_begin (kind : UInt8) (b : Bs) (hk : kind.toNat <= 63) (c : Nat) (hc : c < (pages kind b).length) : join ((pages kind b).take c) = ((0, [], 0), 90) := by
 have := join_cut kind hk c 0 [] b hc
 rw [show decide (0 = 0) = true from rfl] at this
 cases c with
 | zero => rfl
 | succ c =>
  have e : joinF 0 kind [] ((rest kind true b).take (c + 1)) = join ((pages kind b).take (c + 1)) := by
   show _ = joinF 0 0 [] ((rest kind true b).take (c + 1))
   rw [rest_step, List.take_succ_cons]
   rw [joinF_page 0 kind [] _ _ hk (by simp; omega) (by omega) rfl (by omega) (by simp; omega), joinF_page 0 0 [] _ _ hk (by simp; omega) (by omega) rfl (by omega) (by simp; omega)]
  rw [<- e, this]
theorem rest_len (kind : UInt8) : ∀ (n : Nat) (first : Bool) (b : Bs), b.length <= 125 * n -> (rest kind first b).length = max 1 ((b.length + 124) / 125) := by
 intro n
 induction n with
 | zero =>
  intro first b hb
  rw [rest_step, if_pos (by omega)]
  simp
  omega
 | succ n ih =>
  intro first b hb
  rw [rest_step]
  by_cases h : b.length <= 125
  · rw [if_pos h]; simp; omega
  · rw [if_neg h, List.length_cons, ih false (b.drop 125) (by rw [List.length_drop]; omega), List.length_drop]
    omega
theorem pages_len (kind : UInt8) (b : Bs) : (pages kind b).length = max 1 ((b.length + 124) / 125) := rest_len kind (b.length / 125 + 1) true b (by omega)
theorem rest_at (kind : UInt8) : ∀ (j : Nat) (first : Bool) (b : Bs), j < (rest kind first b).length -> (rest kind first b)[j]? = some (laid ⟨kind, first && decide (j = 0), decide (b.length <= 125 * (j + 1)), (b.drop (125 * j)).take 125⟩) := by
 intro j
 induction j with
 | zero => intro first b _; rw [rest_step]; simp
 | succ j ih =>
  intro first b hj
  rw [rest_step] at hj ⊢
  by_cases h : b.length <= 125
  · rw [if_pos h] at hj; simp at hj
  · rw [if_neg h] at hj ⊢
    rw [List.getElem?_cons_succ, ih false (b.drop 125) (by simpa using hj), List.length_drop, List.drop_drop]
    have e1 : (false && decide (j = 0)) = (first && decide (j + 1 = 0)) := by simp
    have e2 : decide (b.length - 125 <= 125 * (j + 1)) = decide (b.length <= 125 * (j + 1 + 1)) := by
     rcases Nat.lt_or_ge (125 * (j + 1 + 1)) b.length with h | h
     · rw [decide_eq_false (by omega), decide_eq_false (by omega)]
     · rw [decide_eq_true (by omega), decide_eq_true (by omega)]
    rw [e1, e2, show 125 + 125 * j = 125 * (j + 1) by omega]
theorem pages_at (kind : UInt8) (b : Bs) (j : Nat) (h : j < (pages kind b).length) : (pages kind b)[j]? = some (laid ⟨kind, decide (j = 0), decide (b.length <= 125 * (j + 1)), (b.drop (125 * j)).take 125⟩) := by
 have := rest_at kind j true b h
 rw [Bool.true_and] at this
 exact this
end Go.PagM
end
section
namespace Go.RecM
abbrev Bs := List UInt8
def le (n : Nat) : Nat -> Bs
 | 0 => []
 | k + 1 => le n k ++ [UInt8.ofNat (n / 2 ^ (8 * k))]
theorem le_len (n k : Nat) : (le n k).length = k := by induction k <;> simp [le, *]
def num : Bs -> Nat
 | [] => 0
 | c :: r => c.toNat + 256 * num r
theorem num_snoc (l : Bs) (c : UInt8) : num (l ++ [c]) = num l + 2 ^ (8 * l.length) * c.toNat := by
 induction l with
 | nil => simp [num]
 | cons d r ih =>
  have e : 2 ^ (8 * (r.length + 1)) = 256 * 2 ^ (8 * r.length) := by rw [Nat.mul_add, Nat.pow_add]; simp [Nat.mul_comm]
  rw [List.cons_append, num, ih, num, List.length_cons, e, Nat.mul_add, Nat.mul_assoc]
  omega
theorem num_le (n k : Nat) : num (le n k) = n % 2 ^ (8 * k) := by
 induction k with
 | zero => simp [le, num, Nat.mod_one]
 | succ k ih =>
  rw [le, num_snoc, ih, le_len]
  have e : 2 ^ (8 * (k + 1)) = 2 ^ (8 * k) * 256 := by rw [Nat.mul_add, Nat.pow_add]
  rw [e, Nat.mod_mul]
  simp
structure Nte where
 kind : UInt8
 addr : Nat
 seq : Nat
 sum : Bs
 kn : Nat
 data : Bs
def zsum : Bs := List.replicate 32 0
def zeroN : Nte := ⟨0, 0, 0, zsum, 0, []⟩
structure Fits (n : Nte) : Prop where
 addr : n.addr < 4294967296
 seq : n.seq < 18446744073709551616
 sum : n.sum.length = 32
 kn : n.kn < 4294967296
def right (n : Nte) : Bool :=
 decide (n.data.length <= 300) &&
  (if n.kind = 1 then true
   else if n.kind = 2 then decide (n.sum = zsum) && decide (n.kn = 0) && decide (n.data.length = 0)
   else if n.kind = 3 then decide (n.addr = 0) && (decide (n.sum = zsum) && decide (n.kn = 0)) && decide (n.data.length = 0)
   else if n.kind = 4 then decide (n.addr = 0) && decide (n.seq = 0) && decide (0 < n.data.length)
   else false)
def tail (n : Nte) : Bs := n.sum ++ (le n.kn 4 ++ (le n.data.length 2 ++ n.data))
def laid (n : Nte) : Bs :=
 n.kind :: (if n.kind = 1 then le n.addr 4 ++ (le n.seq 8 ++ tail n)
  else if n.kind = 2 then le n.addr 4 ++ le n.seq 8
  else if n.kind = 3 then le n.seq 8
  else tail n)
def lay (n : Nte) : Bs × Nat := if right n then (laid n, 0) else ([], 1)
theorem right_data {n : Nte} (h : right n = true) : n.data.length <= 300 := by
 unfold right at h
 simp only [Bool.and_eq_true, decide_eq_true_eq] at h
 exact h.1
theorem right_kind {n : Nte} (h : right n = true) : n.kind = 1 \/ n.kind = 2 \/ n.kind = 3 \/ n.kind = 4 := by
 unfold right at h
 simp only [Bool.and_eq_true] at h
 have h2 := h.2
 split at h2
 · exact .inl ‹_›
 · split at h2
   · exact .inr (.inl ‹_›)
   · split at h2
     · exact .inr (.inr (.inl ‹_›))
     · split at h2
       · exact .inr (.inr (.inr ‹_›))
       · cases h2
theorem tail_len {n : Nte} (f : Fits n) : (tail n).length = 38 + n.data.length := by
 unfold tail
 simp only [List.length_append, le_len, f.sum]
 omega
def sizeN (n : Nte) : Nat := if n.kind = 1 then 51 + n.data.length else if n.kind = 2 then 13 else if n.kind = 3 then 9 else 39 + n.data.length
theorem laid_len {n : Nte} (f : Fits n) : (laid n).length = sizeN n := by
 unfold laid sizeN
 split
 · simp only [List.length_cons, List.length_append, le_len, tail_len f]; omega
 · split
   · simp [le_len]
   · split
     · simp [le_len]
     · simp only [List.length_cons, tail_len f]; omega
theorem num_take (n k : Nat) (l : Bs) (h : n < 2 ^ (8 * k)) : num ((le n k ++ l).take k) = n := by
 rw [List.take_append_of_le_length (by rw [le_len]; omega), List.take_of_length_le (by rw [le_len]; omega), num_le, Nat.mod_eq_of_lt h]
theorem drop_le (n k : Nat) (l : Bs) : (le n k ++ l).drop k = l := by
 rw [List.drop_append_of_le_length (by rw [le_len]; omega), List.drop_of_length_le (by rw [le_len]; omega), List.nil_append]
theorem data_nil {l : Bs} (h : l.length = 0) : l = [] := List.eq_nil_of_length_eq_zero h
theorem tail_inj {m n : Nte} (fm : Fits m) (fn : Fits n) (h : tail m = tail n) : m.sum = n.sum /\ m.kn = n.kn /\ m.data = n.data := by
 unfold tail at h
 obtain ⟨h1, h2⟩ := List.append_inj h (by rw [fm.sum, fn.sum])
 obtain ⟨h3, h4⟩ := List.append_inj h2 (by rw [le_len, le_len])
 obtain ⟨h5, h6⟩ := List.append_inj h4 (by rw [le_len, le_len])
 refine ⟨h1, ?_, h6⟩
 have := congrArg num h3
 rw [num_le, num_le, Nat.mod_eq_of_lt (by have := fm.kn; omega), Nat.mod_eq_of_lt (by have := fn.kn; omega)] at this
 exact this
theorem le_inj {a b k : Nat} (ha : a < 2 ^ (8 * k)) (hb : b < 2 ^ (8 * k)) (h : le a k = le b k) : a = b := by
 have := congrArg num h
 rw [num_le, num_le, Nat.mod_eq_of_lt ha, Nat.mod_eq_of_lt hb] at this
 exact this
theorem right_2 {n : Nte} (h : right n = true) (k : n.kind = 2) : n.sum = zsum /\ n.kn = 0 /\ n.data = [] := by
 unfold right at h
 rw [if_neg (by rw [k]; decide), if_pos k] at h
 simp only [Bool.and_eq_true, decide_eq_true_eq] at h
 exact ⟨h.2.1.1, h.2.1.2, data_nil h.2.2⟩
theorem right_3 {n : Nte} (h : right n = true) (k : n.kind = 3) : n.addr = 0 /\ n.sum = zsum /\ n.kn = 0 /\ n.data = [] := by
 unfold right at h
 rw [if_neg (by rw [k]; decide), if_neg (by rw [k]; decide), if_pos k] at h
 simp only [Bool.and_eq_true, decide_eq_true_eq] at h
 exact ⟨h.2.1.1, h.2.1.2.1, h.2.1.2.2, data_nil h.2.2⟩
theorem right_4 {n : Nte} (h : right n = true) (k : n.kind = 4) : n.addr = 0 /\ n.seq = 0 /\ 0 < n.data.length := by
 unfold right at h
 rw [if_neg (by rw [k]; decide), if_neg (by rw [k]; decide), if_neg (by rw [k]; decide), if_pos k] at h
 simp only [Bool.and_eq_true, decide_eq_true_eq] at h
 exact ⟨h.2.1.1, h.2.1.2, h.2.2⟩
theorem laid_inj {m n : Nte} (fm : Fits m) (fn : Fits n) (hm : right m = true) (hn : right n = true) (h : laid m = laid n) : m = n := by
 have hk : m.kind = n.kind := by
  unfold laid at h
  simp only [List.cons.injEq] at h
  exact h.1
 have hk' := right_kind hm
 unfold laid at h
 rw [<- hk] at h
 simp only [List.cons.injEq, true_and] at h
 have a1 := fm.addr
 have a2 := fn.addr
 have s1 := fm.seq
 have s2 := fn.seq
 suffices m.addr = n.addr /\ m.seq = n.seq /\ m.sum = n.sum /\ m.kn = n.kn /\ m.data = n.data by
  obtain ⟨e1, e2, e3, e4, e5⟩ := this
  cases m
  cases n
  simp_all
 rcases hk' with k | k | k | k
 · rw [if_pos k, if_pos k] at h
   obtain ⟨h1, h2⟩ := List.append_inj h (by rw [le_len, le_len])
   obtain ⟨h3, h4⟩ := List.append_inj h2 (by rw [le_len, le_len])
   obtain ⟨t1, t2, t3⟩ := tail_inj fm fn h4
   exact ⟨le_inj (by omega) (by omega) h1, le_inj (by omega) (by omega) h3, t1, t2, t3⟩
 · rw [if_neg (by rw [k]; decide), if_pos k, if_neg (by rw [k]; decide), if_pos k] at h
   obtain ⟨h1, h2⟩ := List.append_inj h (by rw [le_len, le_len])
   obtain ⟨x1, x2, x3⟩ := right_2 hm k
   obtain ⟨y1, y2, y3⟩ := right_2 hn (hk ▸ k)
   exact ⟨le_inj (by omega) (by omega) h1, le_inj (by omega) (by omega) h2, x1.trans y1.symm, x2.trans y2.symm, x3.trans y3.symm⟩
 · rw [if_neg (by rw [k]; decide), if_neg (by rw [k]; decide), if_pos k, if_neg (by rw [k]; decide), if_neg (by rw [k]; decide), if_pos k] at h
   obtain ⟨x0, x1, x2, x3⟩ := right_3 hm k
   obtain ⟨y0, y1, y2, y3⟩ := right_3 hn (hk ▸ k)
   exact ⟨x0.trans y0.symm, le_inj (by omega) (by omega) h, x1.trans y1.symm, x2.trans y2.symm, x3.trans y3.symm⟩
 · rw [if_neg (by rw [k]; decide), if_neg (by rw [k]; decide), if_neg (by rw [k]; decide), if_neg (by rw [k]; decide), if_neg (by rw [k]; decide), if_neg (by rw [k]; decide)] at h
   obtain ⟨x0, x1, _⟩ := right_4 hm k
   obtain ⟨y0, y1, _⟩ := right_4 hn (hk ▸ k)
   obtain ⟨t1, t2, t3⟩ := tail_inj fm fn h
   exact ⟨x0.trans y0.symm, x1.trans y1.symm, t1, t2, t3⟩
def IsNote (b : Bs) : Prop := ∃ n, Fits n /\ right n = true /\ laid n = b
open Classical in
noncomputable def take (b : Bs) : Nte × Nat := if h : IsNote b then (h.choose, 0) else (zeroN, 100)
theorem take_none {b : Bs} (h : ¬ IsNote b) : take b = (zeroN, 100) := by unfold take; rw [dif_neg h]
theorem take_laid {n : Nte} (f : Fits n) (h : right n = true) : take (laid n) = (n, 0) := by
 have hi : IsNote (laid n) := ⟨n, f, h, rfl⟩
 unfold take
 rw [dif_pos hi]
 obtain ⟨c1, c2, c3⟩ := hi.choose_spec
 rw [laid_inj c1 f c2 h c3]
end Go.RecM
end
section
namespace Go.FlaM
abbrev Bs := List UInt8
structure Act where
 seg : Nat
 page : Int
 b : Bs
structure FS where
 safe : List (List Bs)
 L : List Act
 wear : List Nat
 off : Bool
 left : Int
 n : Nat
 pp : Nat
def blank : Bs := List.replicate 128 255
theorem blank_len : blank.length = 128 := by simp [blank]
def there (s : FS) (seg page : Int) : Bool := decide (0 <= seg /\ seg < (s.safe.length : Int) /\ 0 <= page /\ page < (s.pp : Int))
def pageAt (safe : List (List Bs)) (i k : Nat) : Bs := (safe.getD i []).getD k []
def nowR : List Act -> Nat -> Nat -> Option Bs
 | [], _, _ => none
 | a :: r, i, k => if a.seg = i /\ a.page = (k : Int) then some a.b else if a.seg = i /\ a.page < 0 then some blank else nowR r i k
def now (s : FS) (i k : Nat) : Bs := (nowR s.L.reverse i k).getD (pageAt s.safe i k)
def trip (s : FS) : FS := if s.left = 0 then { s with off := true, left := -1 } else s
def okd (s : FS) : FS := { s with n := s.n + 1, left := if 0 < s.left then s.left - 1 else s.left }
def progF (s : FS) (seg page : Int) (b : Bs) : FS × Nat :=
 if there s seg page = false \/ b.length ≠ 128 then (s, 1)
 else if s.off then (s, 6)
 else if now s seg.toNat page.toNat ≠ blank then (s, 70)
 else if (trip s).off then (trip s, 6)
 else (okd { trip s with L := (trip s).L ++ [⟨seg.toNat, page, b⟩] }, 0)
def bump (l : List Nat) (i : Nat) : List Nat := l.set i (l.getD i 0 + 1)
def erase (s : FS) (seg : Int) : FS × Nat :=
 if there s seg 0 = false then (s, 1)
 else if (trip s).off then (trip s, 6)
 else (okd { trip s with L := (trip s).L ++ [⟨seg.toNat, -1, []⟩], wear := bump (trip s).wear seg.toNat }, 0)
def setPage (safe : List (List Bs)) (i k : Nat) (b : Bs) : List (List Bs) := safe.set i ((safe.getD i []).set k b)
def clearTo (safe : List (List Bs)) (i : Nat) : Nat -> List (List Bs)
 | 0 => safe
 | m + 1 => setPage (clearTo safe i m) i m blank
def doOne (pp : Nat) (safe : List (List Bs)) (a : Act) (fate : Int) : List (List Bs) :=
 if 0 <= a.page then setPage safe a.seg a.page.toNat (a.b.take (min fate.toNat 128) ++ (pageAt safe a.seg a.page.toNat).drop (min fate.toNat 128))
 else clearTo safe a.seg (min fate.toNat pp)
def doAll (pp : Nat) (fates : List Int) : List (List Bs) -> Nat -> List Act -> List (List Bs)
 | safe, _, [] => safe
 | safe, i, a :: r => doAll pp fates (doOne pp safe a (fates.getD i 0)) (i + 1) r
def some' (s : FS) (fates : List Int) : FS := { s with safe := doAll s.pp fates s.safe 0 s.L, L := [] }
def barrier (s : FS) : FS × Nat :=
 if (trip s).off then (trip s, 6) else (okd (some' (trip s) (List.replicate (trip s).L.length 128)), 0)
def read (s : FS) (seg page : Int) : Bs × Nat :=
 if there s seg page = false then ([], 1) else if s.off then ([], 6) else (now s seg.toNat page.toNat, 0)
def cut (s : FS) (after : Int) : FS := if s.off then s else { s with left := max after (-1) }
def crash (s : FS) (fates : List Int) : FS := { some' s fates with off := false, left := -1 }
def fresh (segs pages : Nat) : FS := ⟨List.replicate segs (List.replicate pages blank), [], List.replicate segs 0, false, -1, 0, pages⟩
def mayBe (segs pages : Int) : Bool := decide (0 <= segs /\ segs <= 256 /\ 1 <= pages /\ pages <= 64)
structure Ok (s : FS) (N : Nat) : Prop where
 segs : s.safe.length <= 256
 pp : 1 <= s.pp /\ s.pp <= 64
 rows : ∀ i, i < s.safe.length -> (s.safe.getD i []).length = s.pp
 pages : ∀ i k, i < s.safe.length -> k < s.pp -> (pageAt s.safe i k).length = 128
 wear : s.wear.length = s.safe.length
 acts : ∀ a ∈ s.L, a.seg < s.safe.length /\ ((0 <= a.page /\ a.page < (s.pp : Int) /\ a.b.length = 128) \/ (a.page = -1 /\ a.b = []))
 left : -1 <= s.left /\ s.left <= 9223372036854775807
 n : s.n <= N
 log : s.L.length <= s.n
 worn : ∀ i, s.wear.getD i 0 <= s.n
theorem getD_set_self {α : Type} (l : List α) (i : Nat) (x d : α) (h : i < l.length) : (l.set i x).getD i d = x := by simp [List.getD, h]
theorem getD_set_ne {α : Type} (l : List α) (i j : Nat) (x d : α) (h : i ≠ j) : (l.set i x).getD j d = l.getD j d := by simp [List.getD, List.getElem?_set_ne h]
theorem setPage_len (safe : List (List Bs)) (i k : Nat) (b : Bs) : (setPage safe i k b).length = safe.length := by simp [setPage]
theorem setPage_row (safe : List (List Bs)) (i k j : Nat) (b : Bs) : ((setPage safe i k b).getD j []).length = (safe.getD j []).length := by
 unfold setPage
 by_cases h : i = j
 · subst h
   by_cases hl : i < safe.length
   · rw [getD_set_self _ _ _ _ hl, List.length_set]
   · rw [List.set_eq_of_length_le (by omega)]
 · rw [getD_set_ne _ _ _ _ _ h]
theorem setPage_at (safe : List (List Bs)) (i k i' k' : Nat) (b : Bs) (hi : i < safe.length) (hk : k < (safe.getD i []).length) : pageAt (setPage safe i k b) i' k' = if i = i' /\ k = k' then b else pageAt safe i' k' := by
 unfold pageAt setPage
 by_cases h : i = i'
 · subst h
   rw [getD_set_self _ _ _ _ hi]
   by_cases h2 : k = k'
   · subst h2
     rw [if_pos ⟨rfl, rfl⟩, getD_set_self _ _ _ _ hk]
   · rw [if_neg (fun h => h2 h.2), getD_set_ne _ _ _ _ _ h2]
 · rw [if_neg (fun h' => h h'.1), getD_set_ne _ _ _ _ _ h]
theorem clearTo_len (safe : List (List Bs)) (i m : Nat) : (clearTo safe i m).length = safe.length := by
 induction m with
 | zero => rfl
 | succ m ih => rw [clearTo, setPage_len, ih]
theorem clearTo_row (safe : List (List Bs)) (i m j : Nat) : ((clearTo safe i m).getD j []).length = (safe.getD j []).length := by
 induction m with
 | zero => rfl
 | succ m ih => rw [clearTo, setPage_row, ih]
theorem clearTo_at (safe : List (List Bs)) (i m i' k' : Nat) (hi : i < safe.length) (hm : m <= (safe.getD i []).length) : pageAt (clearTo safe i m) i' k' = if i = i' /\ k' < m then blank else pageAt safe i' k' := by
 induction m with
 | zero => simp [clearTo]
 | succ m ih =>
  rw [clearTo, setPage_at _ _ _ _ _ _ (by rw [clearTo_len]; exact hi) (by rw [clearTo_row]; omega), ih (by omega)]
  by_cases h : i = i'
  · subst h
    by_cases h2 : m = k'
    · subst h2; simp
    · by_cases h3 : k' < m
      · rw [if_neg (fun h => h2 h.2), if_pos ⟨rfl, h3⟩, if_pos ⟨rfl, by omega⟩]
      · rw [if_neg (fun h => h2 h.2), if_neg (fun h => h3 h.2), if_neg (fun h => by omega)]
  · simp [h]
theorem Ok.more {s : FS} {N M : Nat} (h : Ok s N) (hNM : N <= M) : Ok s M := ⟨h.segs, h.pp, h.rows, h.pages, h.wear, h.acts, h.left, Nat.le_trans h.n hNM, h.log, h.worn⟩
theorem ok_fresh (segs pages : Nat) (h1 : segs <= 256) (h2 : 1 <= pages /\ pages <= 64) : Ok (fresh segs pages) 0 := by
 have hr : ∀ i, i < segs -> (List.replicate segs (List.replicate pages blank)).getD i [] = List.replicate pages blank := fun i hi => by simp [List.getD, hi]
 refine ⟨by simpa [fresh] using h1, h2, ?_, ?_, by simp [fresh], by simp [fresh], ⟨by simp [fresh], by simp [fresh]⟩, Nat.le_refl _, by simp [fresh], fun i => ?_⟩
 · intro i hi
   have hi' : i < segs := by simpa [fresh] using hi
   show ((List.replicate segs (List.replicate pages blank)).getD i []).length = pages
   rw [hr i hi']; simp
 · intro i k hi hk
   have hi' : i < segs := by simpa [fresh] using hi
   have hk' : k < pages := hk
   show (((List.replicate segs (List.replicate pages blank)).getD i []).getD k []).length = 128
   rw [hr i hi']; simp [List.getD, hk', blank_len]
 · show (List.replicate segs 0).getD i 0 <= 0
   simp [List.getD, List.getElem?_replicate]; split <;> simp
theorem ok_trip {s : FS} {N : Nat} (h : Ok s N) : Ok (trip s) N := by
 unfold trip
 split
 · exact ⟨h.segs, h.pp, h.rows, h.pages, h.wear, h.acts, ⟨Int.le_refl _, by show (-1 : Int) <= _; omega⟩, h.n, h.log, h.worn⟩
 · exact h
theorem left_okd (s : FS) (h : -1 <= s.left /\ s.left <= 9223372036854775807) : -1 <= (okd s).left /\ (okd s).left <= 9223372036854775807 := by
 show -1 <= (if 0 < s.left then s.left - 1 else s.left) /\ (if 0 < s.left then s.left - 1 else s.left) <= 9223372036854775807
 split <;> omega
theorem there_spec {s : FS} {seg page : Int} (h : there s seg page = true) : 0 <= seg /\ seg < (s.safe.length : Int) /\ 0 <= page /\ page < (s.pp : Int) := by simpa [there] using h
theorem trip_safe (s : FS) : (trip s).safe = s.safe /\ (trip s).L = s.L /\ (trip s).wear = s.wear /\ (trip s).n = s.n /\ (trip s).pp = s.pp := by unfold trip; split <;> exact ⟨rfl, rfl, rfl, rfl, rfl⟩
theorem ok_program {s : FS} {N : Nat} (h : Ok s N) (seg page : Int) (b : Bs) : Ok (progF s seg page b).1 (N + 1) := by
 unfold progF
 split
 · exact h.more (by omega)
 rename_i ht
 split
 · exact h.more (by omega)
 split
 · exact h.more (by omega)
 split
 · exact (ok_trip h).more (by omega)
 have ht2 : there s seg page = true := by
  cases hx : there s seg page with
  | true => rfl
  | false => exact absurd (Or.inl hx) ht
 have hb : b.length = 128 := by
  rcases Nat.decEq b.length 128 with hx | hx
  · exact absurd (Or.inr hx) ht
  · exact hx
 obtain ⟨t1, t2, t3, t4⟩ := there_spec ht2
 have g := ok_trip h
 obtain ⟨e1, e2, e3, e4, e5⟩ := trip_safe s
 refine ⟨g.segs, g.pp, g.rows, g.pages, g.wear, ?_, left_okd _ g.left, ?_, ?_, fun i => Nat.le_trans (g.worn i) (Nat.le_succ _)⟩
 · intro a ha
   have ha' : a ∈ (trip s).L ++ [⟨seg.toNat, page, b⟩] := ha
   rcases List.mem_append.1 ha' with hx | hx
   · exact g.acts a hx
   · have hx2 : a = ⟨seg.toNat, page, b⟩ := by simpa using hx
     subst hx2
     refine ⟨?_, .inl ⟨t3, ?_, hb⟩⟩
     · show seg.toNat < (trip s).safe.length
       rw [e1]; omega
     · show page < ((trip s).pp : Int)
       rw [e5]; exact t4
 · exact Nat.succ_le_succ g.n
 · show ((trip s).L ++ [(⟨seg.toNat, page, b⟩ : Act)]).length <= (trip s).n + 1
   rw [List.length_append, List.length_singleton]
   exact Nat.succ_le_succ g.log
theorem bump_get (l : List Nat) (i j : Nat) (h : i < l.length) : (bump l i).getD j 0 = if i = j then l.getD i 0 + 1 else l.getD j 0 := by
 unfold bump
 by_cases hij : i = j
 · subst hij
   rw [if_pos rfl, getD_set_self _ _ _ _ h]
 · rw [if_neg hij, getD_set_ne _ _ _ _ _ hij]
theorem ok_erase {s : FS} {N : Nat} (h : Ok s N) (seg : Int) : Ok (erase s seg).1 (N + 1) := by
 unfold erase
 split
 · exact h.more (by omega)
 rename_i ht
 split
 · exact (ok_trip h).more (by omega)
 have ht2 : there s seg 0 = true := by
  cases hx : there s seg 0 with
  | true => rfl
  | false => exact absurd hx ht
 obtain ⟨t1, t2, _, _⟩ := there_spec ht2
 have g := ok_trip h
 obtain ⟨e1, e2, e3, e4, e5⟩ := trip_safe s
 have hsw : seg.toNat < (trip s).wear.length := by rw [g.wear, e1]; omega
 refine ⟨g.segs, g.pp, g.rows, g.pages, ?_, ?_, left_okd _ g.left, ?_, ?_, fun i => ?_⟩
 · show (bump (trip s).wear seg.toNat).length = (trip s).safe.length
   unfold bump
   rw [List.length_set]; exact g.wear
 · intro a ha
   have ha' : a ∈ (trip s).L ++ [⟨seg.toNat, -1, []⟩] := ha
   rcases List.mem_append.1 ha' with hx | hx
   · exact g.acts a hx
   · have hx2 : a = ⟨seg.toNat, -1, []⟩ := by simpa using hx
     subst hx2
     refine ⟨?_, .inr ⟨rfl, rfl⟩⟩
     show seg.toNat < (trip s).safe.length
     rw [e1]; omega
 · exact Nat.succ_le_succ g.n
 · show ((trip s).L ++ [(⟨seg.toNat, -1, []⟩ : Act)]).length <= (trip s).n + 1
   rw [List.length_append, List.length_singleton]
   exact Nat.succ_le_succ g.log
 · show (bump (trip s).wear seg.toNat).getD i 0 <= (trip s).n + 1
   rw [bump_get _ _ _ hsw]
   split
   · exact Nat.succ_le_succ (g.worn _)
   · exact Nat.le_trans (g.worn i) (Nat.le_succ _)
structure Shape (safe : List (List Bs)) (n pp : Nat) : Prop where
 len : safe.length = n
 rows : ∀ i, i < n -> (safe.getD i []).length = pp
 pages : ∀ i k, i < n -> k < pp -> (pageAt safe i k).length = 128
theorem shape_set {safe : List (List Bs)} {n pp : Nat} (h : Shape safe n pp) (i k : Nat) (hi : i < n) (hk : k < pp) (b : Bs) (hb : b.length = 128) : Shape (setPage safe i k b) n pp := by
 refine ⟨by rw [setPage_len, h.len], fun j hj => by rw [setPage_row, h.rows j hj], fun j m hj hm => ?_⟩
 rw [setPage_at _ _ _ _ _ _ (by rw [h.len]; exact hi) (by rw [h.rows i hi]; exact hk)]
 split
 · exact hb
 · exact h.pages j m hj hm
theorem shape_clear {safe : List (List Bs)} {n pp : Nat} (h : Shape safe n pp) (i m : Nat) (hi : i < n) (hm : m <= pp) : Shape (clearTo safe i m) n pp := by
 induction m with
 | zero => exact h
 | succ m ih => exact shape_set (ih (by omega)) i m hi (by omega) blank blank_len
theorem shape_one {safe : List (List Bs)} {n pp : Nat} (h : Shape safe n pp) (a : Act) (ha : a.seg < n /\ ((0 <= a.page /\ a.page < (pp : Int) /\ a.b.length = 128) \/ (a.page = -1 /\ a.b = []))) (fate : Int) : Shape (doOne pp safe a fate) n pp := by
 unfold doOne
 split
 · rcases ha.2 with ⟨h1, h2, h3⟩ | ⟨h1, _⟩
   · refine shape_set h _ _ ha.1 (by omega) _ ?_
     have := h.pages a.seg a.page.toNat ha.1 (by omega)
     rw [List.length_append, List.length_take, List.length_drop, this, h3]; omega
   · omega
 · exact shape_clear h _ _ ha.1 (by omega)
theorem shape_all {n pp : Nat} (fates : List Int) : ∀ (L : List Act) (safe : List (List Bs)) (i : Nat), Shape safe n pp -> (∀ a ∈ L, a.seg < n /\ ((0 <= a.page /\ a.page < (pp : Int) /\ a.b.length = 128) \/ (a.page = -1 /\ a.b = []))) -> Shape (doAll pp fates safe i L) n pp
 | [], safe, i, h, _ => h
 | a :: L, safe, i, h, ha => shape_all fates L _ (i + 1) (shape_one h a (ha a (List.mem_cons_self ..)) _) (fun x hx => ha x (List.mem_cons_of_mem _ hx))
theorem Ok.shape {s : FS} {N : Nat} (h : Ok s N) : Shape s.safe s.safe.length s.pp := ⟨rfl, h.rows, h.pages⟩
theorem ok_some {s : FS} {N : Nat} (h : Ok s N) (fates : List Int) : Ok (some' s fates) N := by
 have g := shape_all fates s.L s.safe 0 h.shape h.acts
 refine ⟨?_, h.pp, ?_, ?_, ?_, by simp [some'], h.left, h.n, Nat.zero_le _, h.worn⟩
 · show (doAll s.pp fates s.safe 0 s.L).length <= 256
   rw [g.len]; exact h.segs
 · intro i hi
   exact g.rows i (by rw [<- g.len]; exact hi)
 · intro i k hi hk
   exact g.pages i k (by rw [<- g.len]; exact hi) hk
 · show s.wear.length = (doAll s.pp fates s.safe 0 s.L).length
   rw [g.len]; exact h.wear
theorem ok_barrier {s : FS} {N : Nat} (h : Ok s N) : Ok (barrier s).1 (N + 1) := by
 unfold barrier
 split
 · exact (ok_trip h).more (by omega)
 · have g := ok_some (ok_trip h) (List.replicate (trip s).L.length 128)
   exact ⟨g.segs, g.pp, g.rows, g.pages, g.wear, g.acts, left_okd _ g.left, Nat.succ_le_succ g.n, Nat.le_trans g.log (Nat.le_succ _), fun i => Nat.le_trans (g.worn i) (Nat.le_succ _)⟩
theorem ok_cut {s : FS} {N : Nat} (h : Ok s N) (after : Int) (ha : after <= 9223372036854775807) : Ok (cut s after) N := by
 unfold cut
 split
 · exact h
 · exact ⟨h.segs, h.pp, h.rows, h.pages, h.wear, h.acts, ⟨by show -1 <= max after (-1); omega, by show max after (-1) <= _; omega⟩, h.n, h.log, h.worn⟩
theorem ok_crash {s : FS} {N : Nat} (h : Ok s N) (fates : List Int) : Ok (crash s fates) N := by
 have g := ok_some h fates
 exact ⟨g.segs, g.pp, g.rows, g.pages, g.wear, g.acts, ⟨Int.le_refl _, by show (-1 : Int) <= _; omega⟩, g.n, g.log, g.worn⟩
end Go.FlaM
end
section
namespace Go.LogM
abbrev Bs := List UInt8
theorem joinF_more (q : Bs) (hq : PagM.isPage q = false) (r : List Bs) : ∀ (l : List Bs) (i : Nat) (k : UInt8) (all : Bs), PagM.joinF i k all l = ((0, [], 0), 90) -> PagM.joinF i k all (l ++ q :: r) = ((0, [], 0), 90)
 | [], i, k, all, _ => by
  rw [List.nil_append, PagM.joinF]
  split
  · rfl
  · rw [if_pos (by simp [hq])]
 | p :: l, i, k, all, h => by
  rw [List.cons_append]
  rw [PagM.joinF] at h ⊢
  split
  · rfl
  · rename_i h1
    rw [if_neg h1] at h
    split
    · rfl
    · rename_i h2
      rw [if_neg h2] at h
      split
      · rename_i h3
        rw [if_pos h3] at h
        simp at h
      · rename_i h3
        rw [if_neg h3] at h
        exact joinF_more q hq r l _ _ _ h
def hdr (s : Nat) : Bs := PagM.laid ⟨1, true, true, RecM.le s 8⟩
theorem hdr_len (s : Nat) : (hdr s).length = 128 := PagM.laid_len _ (by show (RecM.le s 8).length <= 125; rw [RecM.le_len]; decide)
theorem hdr_page (s : Nat) : PagM.isPage (hdr s) = true := PagM.isPage_laid (by show (1 : UInt8).toNat <= 63; decide) (by show (RecM.le s 8).length <= 125; rw [RecM.le_len]; decide)
def headSeq (p : Bs) : Nat :=
 if (PagM.take p).2 = 0 /\ (PagM.take p).1.kind = 1 /\ (PagM.take p).1.first = true /\ (PagM.take p).1.last = true /\ (PagM.take p).1.data.length = 8 then RecM.num (PagM.take p).1.data else 0
theorem headSeq_hdr (s : Nat) (h : s < 18446744073709551616) : headSeq (hdr s) = s := by
 have e : PagM.take (hdr s) = (⟨1, true, true, RecM.le s 8⟩, 0) := PagM.take_laid (by show (1 : UInt8).toNat <= 63; decide) (by show (RecM.le s 8).length <= 125; rw [RecM.le_len]; decide)
 unfold headSeq
 rw [e]
 rw [if_pos ⟨rfl, rfl, rfl, rfl, RecM.le_len s 8⟩, RecM.num_le]
 exact Nat.mod_eq_of_lt h
theorem headSeq_bad {p : Bs} (h : PagM.isPage p = false) : headSeq p = 0 := by
 unfold headSeq PagM.take
 rw [h]
 simp
theorem blank_page : PagM.isPage FlaM.blank = false := by simp [PagM.isPage, FlaM.blank]
def notePages (n : RecM.Nte) : List Bs := PagM.pages 2 (RecM.laid n)
theorem notePages_pos (n : RecM.Nte) : 0 < (notePages n).length := by unfold notePages; rw [PagM.pages_len]; omega
theorem notePages_page (n : RecM.Nte) : ∀ p ∈ notePages n, PagM.isPage p = true /\ p.length = 128 := by
 intro p hp
 obtain ⟨j, hj, rfl⟩ := List.getElem_of_mem hp
 have h := PagM.pages_at 2 (RecM.laid n) j hj
 have e : (notePages n)[j] = PagM.laid ⟨2, decide (j = 0), decide ((RecM.laid n).length <= 125 * (j + 1)), ((RecM.laid n).drop (125 * j)).take 125⟩ := (List.getElem?_eq_some_iff.1 h).2
 rw [e]
 exact ⟨PagM.isPage_laid (by show (2 : UInt8).toNat <= 63; decide) (by simp; omega), PagM.laid_len _ (by simp; omega)⟩
noncomputable def note1 (l : List Bs) : Option (RecM.Nte × Nat) :=
 if (PagM.join l).2 = 0 /\ (PagM.join l).1.1 = 2 /\ (RecM.take (PagM.join l).1.2.1).2 = 0 then some ((RecM.take (PagM.join l).1.2.1).1, (PagM.join l).1.2.2) else none
theorem note1_err {l : List Bs} (h : PagM.join l = ((0, [], 0), 90)) : note1 l = none := by unfold note1; rw [h]; simp
theorem laid_small {n : RecM.Nte} (f : RecM.Fits n) (h : RecM.right n = true) : (RecM.laid n).length <= 351 := by
 have := RecM.right_data h
 rw [RecM.laid_len f]
 unfold RecM.sizeN
 split
 · omega
 split
 · omega
 split <;> omega
theorem notePages_few {n : RecM.Nte} (f : RecM.Fits n) (h : RecM.right n = true) : (notePages n).length <= 3 := by
 have := laid_small f h
 unfold notePages; rw [PagM.pages_len]; omega
theorem note1_pages {n : RecM.Nte} (f : RecM.Fits n) (h : RecM.right n = true) (behind : List Bs) : note1 (notePages n ++ behind) = some (n, (notePages n).length) := by
 have e := PagM.join_split 2 (RecM.laid n) (by decide) (by have := laid_small f h; omega) behind
 unfold note1 notePages
 rw [e]
 simp only
 rw [RecM.take_laid f h, if_pos ⟨trivial, trivial, rfl⟩]
theorem note1_cut (n : RecM.Nte) (c : Nat) (hc : c < (notePages n).length) : note1 ((notePages n).take c) = none := note1_err (PagM.join_begin 2 _ (by decide) c hc)
theorem note1_torn (n : RecM.Nte) (c : Nat) (hc : c < (notePages n).length) (q : Bs) (hq : PagM.isPage q = false) (r : List Bs) : note1 ((notePages n).take c ++ q :: r) = none :=
 note1_err (joinF_more q hq r _ 0 0 [] (PagM.join_begin 2 _ (by decide) c hc))
def Like : List Bs -> List Bs -> Prop
 | [], [] => True
 | q :: Q, f :: F => (q = f \/ PagM.isPage q = false) /\ Like Q F
 | _, _ => False
theorem like_refl : ∀ F : List Bs, Like F F
 | [] => trivial
 | _ :: F => ⟨.inl rfl, like_refl F⟩
theorem like_of_get : ∀ (Q F : List Bs), Q.length = F.length -> (∀ i, i < F.length -> Q.getD i [] = F.getD i [] \/ PagM.isPage (Q.getD i []) = false) -> Like Q F
 | [], [], _, _ => trivial
 | q :: Q, f :: F, hl, h => ⟨by simpa using h 0 (by simp), like_of_get Q F (by simpa using hl) (fun i hi => by simpa using h (i + 1) (by simpa using hi))⟩
 | [], _ :: _, hl, _ => by simp at hl
 | _ :: _, [], hl, _ => by simp at hl
theorem like_split : ∀ (A : List Bs) {Q B : List Bs}, Like Q (A ++ B) -> ∃ Q1 Q2, Q = Q1 ++ Q2 /\ Like Q1 A /\ Like Q2 B
 | [], Q, B, h => ⟨[], Q, rfl, trivial, h⟩
 | f :: A, [], B, h => h.elim
 | f :: A, q :: Q, B, h => by
  obtain ⟨h1, h2⟩ := h
  obtain ⟨Q1, Q2, rfl, h3, h4⟩ := like_split A h2
  exact ⟨q :: Q1, Q2, rfl, ⟨h1, h3⟩, h4⟩
theorem like_len : ∀ {Q F : List Bs}, Like Q F -> Q.length = F.length
 | [], [], _ => rfl
 | _ :: _, _ :: _, h => by rw [List.length_cons, List.length_cons, like_len h.2]
 | [], _ :: _, h => h.elim
 | _ :: _, [], h => h.elim
theorem like_first : ∀ {A Q : List Bs}, Like Q A -> Q = A \/ ∃ c q r, Q = A.take c ++ q :: r /\ c < A.length /\ PagM.isPage q = false
 | [], [], _ => .inl rfl
 | [], _ :: _, h => h.elim
 | _ :: _, [], h => h.elim
 | f :: A, q :: Q, ⟨h1, h2⟩ => by
  rcases h1 with rfl | h1
  · rcases like_first h2 with rfl | ⟨c, x, r, rfl, hc, hx⟩
    · exact .inl rfl
    · exact .inr ⟨c + 1, x, r, rfl, by simpa using hc, hx⟩
  · exact .inr ⟨0, q, Q, rfl, by simp, h1⟩
def Tail (T : List Bs) : Prop := ∃ n c bl, T = (notePages n).take c ++ bl /\ c < (notePages n).length /\ ∀ p ∈ bl, PagM.isPage p = false
theorem like_bad : ∀ {R bl : List Bs}, Like R bl -> (∀ p ∈ bl, PagM.isPage p = false) -> R = [] \/ ∃ q r, R = q :: r /\ PagM.isPage q = false
 | [], [], _, _ => .inl rfl
 | [], _ :: _, h, _ => h.elim
 | _ :: _, [], h, _ => h.elim
 | q :: R, f :: bl, ⟨h1, _⟩, hb => by
  refine .inr ⟨q, R, rfl, ?_⟩
  rcases h1 with rfl | h1
  · exact hb _ List.mem_cons_self
  · exact h1
theorem note1_tail {R T : List Bs} (hT : Tail T) (h : Like R T) : note1 R = none := by
 obtain ⟨n, c, bl, rfl, hc, hbl⟩ := hT
 obtain ⟨R1, R2, rfl, h1, h2⟩ := like_split _ h
 rcases like_first h1 with rfl | ⟨c', q, r, rfl, hc', hq⟩
 · rcases like_bad h2 hbl with rfl | ⟨q, r, rfl, hq⟩
   · rw [List.append_nil]; exact note1_cut n c hc
   · exact note1_torn n c hc q hq r
 · rw [List.take_take, List.append_assoc]
   exact note1_torn n _ (by omega) q hq _
structure Plc where
 seg : Int
 page : Int
 pages : Int
structure Ent where
 plc : Plc
 note : RecM.Nte
noncomputable def scanF (seg : Int) : Nat -> Nat -> List Bs -> List Ent
 | 0, _, _ => []
 | f + 1, a, l => match note1 l with
  | none => []
  | some (n, k) => ⟨⟨seg, a, k⟩, n⟩ :: scanF seg f (a + k) (l.drop k)
def ents (seg : Int) : Nat -> List RecM.Nte -> List Ent
 | _, [] => []
 | a, n :: l => ⟨⟨seg, a, (notePages n).length⟩, n⟩ :: ents seg (a + (notePages n).length) l
theorem ents_notes (seg : Int) : ∀ (l : List RecM.Nte) (a : Nat), (ents seg a l).map (·.note) = l
 | [], _ => rfl
 | n :: l, a => by unfold ents; rw [List.map_cons, ents_notes seg l]
structure Good (n : RecM.Nte) : Prop where
 fits : RecM.Fits n
 right : RecM.right n = true
theorem scan_like (seg : Int) (T : List Bs) (hT : Tail T) : ∀ (ns : List RecM.Nte) (a f : Nat) (Q : List Bs), (∀ n ∈ ns, Good n) -> Like Q (ns.flatMap notePages ++ T) -> ns.length < f ->
 ∃ m, m <= ns.length /\ scanF seg f a Q = ents seg a (ns.take m) /\ ∀ m' F2, m' <= ns.length -> Q = (ns.take m').flatMap notePages ++ F2 -> m' <= m
 | ns, a, 0, Q, _, _, hf => absurd hf (Nat.not_lt_zero _)
 | [], a, f + 1, Q, _, h, _ => by
  refine ⟨0, Nat.le_refl _, ?_, fun m' _ hm _ => hm⟩
  unfold scanF
  rw [note1_tail hT h]
  rfl
 | n :: ns, a, f + 1, Q, hg, h, hf => by
  rw [List.flatMap_cons, List.append_assoc] at h
  obtain ⟨Q1, Q2, rfl, h1, h2⟩ := like_split _ h
  have gn := hg n List.mem_cons_self
  rcases like_first h1 with rfl | ⟨c, q, r, rfl, hc, hq⟩
  · obtain ⟨m, hm, e, hmax⟩ := scan_like seg T hT ns (a + (notePages n).length) f Q2 (fun x hx => hg x (List.mem_cons_of_mem _ hx)) h2 (by simpa using hf)
    refine ⟨m + 1, by simpa using hm, ?_, ?_⟩
    · rw [scanF, note1_pages gn.fits gn.right]
      simp only
      rw [List.drop_left, e, List.take_succ_cons, ents]
    · intro m' F2 hm' hQ
      cases m' with
      | zero => exact Nat.zero_le _
      | succ m' =>
       rw [List.take_succ_cons, List.flatMap_cons, List.append_assoc] at hQ
       exact Nat.succ_le_succ (hmax m' F2 (by simpa using hm') (List.append_cancel_left hQ))
  · refine ⟨0, Nat.zero_le _, ?_, ?_⟩
    · rw [scanF, List.append_assoc, List.cons_append, note1_torn n c hc q hq]
      rfl
    · intro m' F2 hm' hQ
      cases m' with
      | zero => exact Nat.le_refl _
      | succ m' =>
       exfalso
       rw [List.take_succ_cons, List.flatMap_cons, List.append_assoc] at hQ
       have e : ((notePages n).take c ++ (q :: r ++ Q2))[c]? = some q := by
        rw [List.getElem?_append_right (by rw [List.length_take]; omega), List.length_take, Nat.min_eq_left (by omega), Nat.sub_self]
        rfl
       rw [hQ, List.append_assoc, List.getElem?_append_left hc] at e
       have := (notePages_page n q (List.mem_of_getElem? e)).1
       rw [hq] at this
       cases this
end Go.LogM
end
section
namespace Go.LogM
open FlaM (FS pageAt doAll doOne nowR)
def progsFrom (g : Nat) : Nat -> List Bs -> List FlaM.Act
 | _, [] => []
 | a, b :: X => ⟨g, (a : Int), b⟩ :: progsFrom g (a + 1) X
theorem progsFrom_snoc (g : Nat) : ∀ (X : List Bs) (a : Nat) (b : Bs), progsFrom g a (X ++ [b]) = progsFrom g a X ++ [⟨g, ((a + X.length : Nat) : Int), b⟩]
 | [], a, b => rfl
 | x :: X, a, b => by
  show _ :: progsFrom g (a + 1) (X ++ [b]) = _
  rw [progsFrom_snoc g X (a + 1) b, List.length_cons, show a + 1 + X.length = a + (X.length + 1) by omega]
  rfl
theorem progsFrom_len (g : Nat) : ∀ (X : List Bs) (a : Nat), (progsFrom g a X).length = X.length
 | [], _ => rfl
 | _ :: X, a => by show (progsFrom g (a + 1) X).length + 1 = _; rw [progsFrom_len g X]; rfl
theorem nowR_progsN (g : Nat) : ∀ (n : Nat) (X : List Bs), X.length = n -> ∀ (a j i : Nat), nowR (progsFrom g a X).reverse j i = if j = g /\ a <= i /\ i < a + X.length then X[i - a]? else none := by
 intro n
 induction n with
 | zero =>
  intro X hX a j i
  obtain rfl := List.eq_nil_of_length_eq_zero hX
  exact (if_neg (by simp <;> omega)).symm
 | succ n ihn =>
  intro Y hY a j i
  obtain ⟨X, b, rfl⟩ : ∃ X b, Y = X ++ [b] := by
   rcases List.eq_nil_or_concat Y with rfl | h
   · simp at hY
   · obtain ⟨l, b, h⟩ := h
     exact ⟨l, b, by rw [h, List.concat_eq_append]⟩
  have ih := ihn X (by simpa using hY)
  rw [progsFrom_snoc, List.reverse_append, List.reverse_singleton, List.singleton_append, FlaM.nowR]
  simp only
  by_cases h : j = g /\ i = a + X.length
  · obtain ⟨rfl, rfl⟩ := h
    rw [if_pos ⟨rfl, rfl⟩, if_pos ⟨rfl, by omega, by simp⟩, List.getElem?_append_right (by omega), show a + X.length - a - X.length = 0 by omega]
    rfl
  · rw [if_neg (by rintro ⟨rfl, h2⟩; exact h ⟨rfl, by omega⟩), if_neg (by rintro ⟨_, h2⟩; omega), ih]
    by_cases h2 : j = g /\ a <= i /\ i < a + X.length
    · rw [if_pos h2, if_pos ⟨h2.1, h2.2.1, by simp; omega⟩, List.getElem?_append_left (by omega)]
    · rw [if_neg h2, if_neg]
      rintro ⟨h3, h4, h5⟩
      simp only [List.length_append, List.length_singleton] at h5
      exact h2 ⟨h3, h4, by
       rcases Nat.lt_or_ge i (a + X.length) with h6 | h6
       · exact h6
       · exact absurd ⟨h3, by omega⟩ h⟩
theorem nowR_progs (g : Nat) (X : List Bs) (a j i : Nat) : nowR (progsFrom g a X).reverse j i = if j = g /\ a <= i /\ i < a + X.length then X[i - a]? else none := nowR_progsN g X.length X rfl a j i
theorem doAll_progs (pp : Nat) (fates : List Int) (g n : Nat) (hg : g < n) : ∀ (X : List Bs) (a k : Nat) (safe : List (List Bs)), FlaM.Shape safe n pp -> a + X.length <= pp -> (∀ x ∈ X, x.length = 128) ->
 ∀ j i, pageAt (doAll pp fates safe k (progsFrom g a X)) j i = if j = g /\ a <= i /\ i < a + X.length then (X.getD (i - a) []).take (min (fates.getD (k + (i - a)) 0).toNat 128) ++ (pageAt safe j i).drop (min (fates.getD (k + (i - a)) 0).toNat 128) else pageAt safe j i
 | [], a, k, safe, _, _, _, j, i => (if_neg (by simp <;> omega)).symm
 | x :: X, a, k, safe, hs, hl, hx, j, i => by
  have hx0 := hx x List.mem_cons_self
  simp only [List.length_cons] at hl
  have hone := FlaM.shape_one hs ⟨g, (a : Int), x⟩ ⟨hg, .inl ⟨by simp, by show (a : Int) < pp; omega, hx0⟩⟩ (fates.getD k 0)
  have e1 : ∀ j i, pageAt (doOne pp safe ⟨g, (a : Int), x⟩ (fates.getD k 0)) j i = if g = j /\ a = i then x.take (min (fates.getD k 0).toNat 128) ++ (pageAt safe g a).drop (min (fates.getD k 0).toNat 128) else pageAt safe j i := by
   intro j i
   unfold FlaM.doOne
   simp only
   rw [if_pos (by simp), show ((a : Int)).toNat = a by simp]
   exact FlaM.setPage_at _ _ _ _ _ _ (by rw [hs.len]; exact hg) (by rw [hs.rows g hg]; omega)
  show pageAt (doAll pp fates (doOne pp safe ⟨g, (a : Int), x⟩ (fates.getD k 0)) (k + 1) (progsFrom g (a + 1) X)) j i = _
  rw [doAll_progs pp fates g n hg X (a + 1) (k + 1) _ hone (by omega) (fun y hy => hx y (List.mem_cons_of_mem _ hy))]
  by_cases h2 : j = g /\ a + 1 <= i /\ i < a + 1 + X.length
  · rw [if_pos h2, e1, if_neg (by rintro ⟨_, h4⟩; omega), if_pos ⟨h2.1, by omega, by simp only [List.length_cons]; omega⟩]
    obtain ⟨d, hd⟩ : ∃ d, i = a + 1 + d := ⟨i - (a + 1), by omega⟩
    rw [show i - (a + 1) = d by omega, show i - a = d + 1 by omega, List.getD_cons_succ, show k + 1 + d = k + (d + 1) by omega]
  · rw [if_neg h2, e1]
    by_cases h : g = j /\ a = i
    · obtain ⟨h3, h4⟩ := h
      rw [if_pos ⟨h3, h4⟩, if_pos ⟨h3.symm, by omega, by simp only [List.length_cons]; omega⟩, show i - a = 0 by omega, h3, h4]
      rfl
    · rw [if_neg h, if_neg]
      rintro ⟨h3, h4, h5⟩
      simp only [List.length_cons] at h5
      rcases Nat.lt_or_ge a i with h6 | h6
      · exact h2 ⟨h3, by omega, by omega⟩
      · exact h ⟨h3.symm, by omega⟩
structure Phy (s : FS) (fr M : Nat) (F : Nat -> List Bs) (g : Nat) (X : List Bs) (er : Bool) : Prop where
 len : s.safe.length = fr + M
 rows : ∀ j, j < M -> ∀ i, i < s.pp -> pageAt s.safe (fr + j) i = (F j).getD i FlaM.blank
 log : s.L = if er then [⟨fr + g, -1, []⟩] else progsFrom (fr + g) (F g).length X
 erF : er = true -> F g = [] /\ X = []
 gM : g < M \/ (X = [] /\ er = false)
 room : ∀ j, j < M -> (F j).length <= s.pp
 roomX : (F g).length + X.length <= s.pp
 pages : (∀ j, ∀ p ∈ F j, p.length = 128) /\ ∀ p ∈ X, p.length = 128
def onSeg (F : Nat -> List Bs) (g : Nat) (X : List Bs) (j : Nat) : List Bs := if j = g then F j ++ X else F j
theorem getD_append {A B : List Bs} {i : Nat} {d : Bs} : (A ++ B).getD i d = if i < A.length then A.getD i d else B.getD (i - A.length) d := by
 simp only [List.getD_eq_getElem?_getD]
 split
 · rename_i h; rw [List.getElem?_append_left h]
 · rename_i h; rw [List.getElem?_append_right (by omega)]
section
variable {s : FS} {fr M : Nat} {F : Nat -> List Bs} {g : Nat} {X : List Bs} {er : Bool}
theorem Phy.now (h : Phy s fr M F g X er) (j i : Nat) (hj : j < M) (hi : i < s.pp) : FlaM.now s (fr + j) i = (onSeg F g X j).getD i FlaM.blank := by
 unfold FlaM.now onSeg
 rw [h.log, h.rows j hj i hi]
 cases er
 · simp only [Bool.false_eq_true, if_false]
   rw [nowR_progs]
   by_cases hjg : j = g
   · subst hjg
     rw [if_pos rfl, getD_append]
     by_cases hin : i < (F j).length
     · rw [if_neg (by omega), if_pos hin]; rfl
     · rw [if_neg hin]
       by_cases h2 : i < (F j).length + X.length
       · rw [if_pos ⟨rfl, by omega, h2⟩, List.getD_eq_getElem?_getD (l := X), List.getElem?_eq_getElem (show i - (F j).length < X.length by omega)]; rfl
       · rw [if_neg (by omega), List.getD_eq_getElem?_getD, List.getD_eq_getElem?_getD, List.getElem?_eq_none (by omega), List.getElem?_eq_none (by omega)]; rfl
   · rw [if_neg (by omega), if_neg hjg]; rfl
 · obtain ⟨e1, e2⟩ := h.erF rfl
   simp only [if_true, List.reverse_singleton]
   by_cases hjg : j = g
   · subst hjg
     rw [if_pos rfl, e1, e2]
     simp [FlaM.nowR]
   · rw [if_neg hjg]
     simp only [FlaM.nowR]
     rw [if_neg (by rintro ⟨h1, _⟩; omega), if_neg (by rintro ⟨h1, _⟩; omega)]
     rfl
theorem Phy.shape {N : Nat} (h : Phy s fr M F g X er) (ok : FlaM.Ok s N) : FlaM.Shape s.safe (fr + M) s.pp := by
 have := ok.shape
 rwa [h.len] at this
theorem torn_page (x : Bs) (hx : x.length = 128) (k : Nat) : x.take (min k 128) ++ FlaM.blank.drop (min k 128) = x \/ PagM.isPage (x.take (min k 128) ++ FlaM.blank.drop (min k 128)) = false := by
 rcases Nat.lt_or_ge k 128 with h | h
 · rw [Nat.min_eq_left (by omega)]
   exact .inr (PagM.torn k h hx)
 · rw [Nat.min_eq_right h]
   refine .inl ?_
   rw [List.take_of_length_le (by omega), List.drop_of_length_le (by rw [FlaM.blank_len]; exact Nat.le_refl _), List.append_nil]
theorem clear_blank {N : Nat} (h : Phy s fr M F g X er) (ok : FlaM.Ok s N) (he : er = true) (m : Nat) (hm : m <= s.pp) (j i : Nat) (hi : i < s.pp) (hj : j < M) : pageAt (FlaM.clearTo s.safe (fr + g) m) (fr + j) i = (F j).getD i FlaM.blank := by
 obtain ⟨e1, e2⟩ := h.erF he
 have hg : g < M := by
  rcases h.gM with h1 | ⟨_, h2⟩
  · exact h1
  · rw [he] at h2; cases h2
 have hs := h.shape ok
 rw [FlaM.clearTo_at _ _ _ _ _ (by rw [hs.len]; omega) (by rw [hs.rows _ (by omega)]; exact hm), h.rows j hj i hi]
 split
 · rename_i hc
   have : g = j := by omega
   subst this
   rw [e1]; rfl
 · rfl
theorem Phy.crash {N : Nat} (h : Phy s fr M F g X er) (ok : FlaM.Ok s N) (fates : List Int) (j i : Nat) (hj : j < M) (hi : i < s.pp) :
 (j ≠ g \/ i < (F j).length -> pageAt (FlaM.crash s fates).safe (fr + j) i = (F j).getD i FlaM.blank) /\
 (pageAt (FlaM.crash s fates).safe (fr + j) i = (onSeg F g X j).getD i FlaM.blank \/ PagM.isPage (pageAt (FlaM.crash s fates).safe (fr + j) i) = false) := by
 have hs := h.shape ok
 show (_ -> pageAt (doAll s.pp fates s.safe 0 s.L) (fr + j) i = _) /\ (pageAt (doAll s.pp fates s.safe 0 s.L) (fr + j) i = _ \/ PagM.isPage (pageAt (doAll s.pp fates s.safe 0 s.L) (fr + j) i) = false)
 rw [h.log]
 cases er
 · simp only [Bool.false_eq_true, if_false]
   rcases h.gM with hg | ⟨hX, _⟩
   · rw [doAll_progs s.pp fates (fr + g) (fr + M) (by omega) X _ 0 s.safe hs h.roomX h.pages.2, h.rows j hj i hi]
     by_cases hc : fr + j = fr + g /\ (F g).length <= i /\ i < (F g).length + X.length
     · obtain ⟨h1, h2, h3⟩ := hc
       have hjg : j = g := by omega
       subst hjg
       rw [if_pos ⟨rfl, h2, h3⟩]
       refine ⟨fun hh => ?_, ?_⟩
       · rcases hh with hh | hh
         · exact absurd rfl hh
         · omega
       · rw [List.getD_eq_getElem?_getD (l := F j), List.getElem?_eq_none (by omega), Option.getD_none]
         unfold onSeg
         rw [if_pos rfl, getD_append, if_neg (by omega)]
         have hx : (X.getD (i - (F j).length) []).length = 128 := by
          rw [List.getD_eq_getElem?_getD, List.getElem?_eq_getElem (by omega)]
          exact h.pages.2 _ (List.getElem_mem _)
         have e : X.getD (i - (F j).length) FlaM.blank = X.getD (i - (F j).length) [] := by
          rw [List.getD_eq_getElem?_getD, List.getD_eq_getElem?_getD, List.getElem?_eq_getElem (by omega)]; rfl
         rw [e]
         exact torn_page _ hx _
     · rw [if_neg hc]
       refine ⟨fun _ => rfl, .inl ?_⟩
       unfold onSeg
       by_cases hjg : j = g
       · subst hjg
         rw [if_pos rfl, getD_append]
         split
         · rfl
         · rename_i h2
           rw [List.getD_eq_getElem?_getD, List.getD_eq_getElem?_getD, List.getElem?_eq_none (by omega), List.getElem?_eq_none (by omega)]
       · rw [if_neg hjg]
   · subst hX
     refine ⟨fun _ => h.rows j hj i hi, .inl ?_⟩
     show pageAt s.safe (fr + j) i = _
     rw [h.rows j hj i hi]
     unfold onSeg
     split <;> simp
 · obtain ⟨e1, e2⟩ := h.erF rfl
   simp only [if_true]
   have e : pageAt (doAll s.pp fates s.safe 0 [⟨fr + g, -1, []⟩]) (fr + j) i = (F j).getD i FlaM.blank := by
    show pageAt (doOne s.pp s.safe ⟨fr + g, -1, []⟩ (fates.getD 0 0)) (fr + j) i = _
    unfold FlaM.doOne
    simp only
    rw [if_neg (by omega)]
    exact clear_blank h ok rfl _ (by omega) j i hi hj
   rw [e]
   refine ⟨fun _ => rfl, .inl ?_⟩
   unfold onSeg
   split
   · rw [e2, List.append_nil]
   · rfl
theorem Phy.same {s' : FS} (h : Phy s fr M F g X er) (e1 : s'.safe = s.safe) (e2 : s'.L = s.L) (e3 : s'.pp = s.pp) : Phy s' fr M F g X er :=
 ⟨by rw [e1]; exact h.len, fun j hj i hi => by rw [e1]; exact h.rows j hj i (by rw [<- e3]; exact hi), by rw [e2]; exact h.log, h.erF, h.gM, fun j hj => by rw [e3]; exact h.room j hj, by rw [e3]; exact h.roomX, h.pages⟩
theorem trip_same (s : FS) : (FlaM.trip s).safe = s.safe /\ (FlaM.trip s).L = s.L /\ (FlaM.trip s).pp = s.pp := by
 obtain ⟨e1, e2, _, _, e5⟩ := FlaM.trip_safe s
 exact ⟨e1, e2, e5⟩
theorem Phy.trip (h : Phy s fr M F g X er) : Phy (FlaM.trip s) fr M F g X er := by
 obtain ⟨e1, e2, e3⟩ := trip_same s
 exact h.same e1 e2 e3
def Live (s : FS) : Prop := s.off = false /\ s.left = -1
theorem live_trip (h : Live s) : FlaM.trip s = s := by
 unfold FlaM.trip
 rw [if_neg (by rw [h.2]; decide)]
theorem live_okd (h : Live s) : Live (FlaM.okd s) := ⟨h.1, by show (if 0 < s.left then s.left - 1 else s.left) = -1; rw [h.2]; rfl⟩
structure Did (s : FS) (r : FS × Nat) (fr M : Nat) (F F' : Nat -> List Bs) (g g' : Nat) (X X' : List Bs) (er er' : Bool) : Prop where
 pp : r.1.pp = s.pp
 or : (r.2 = 0 /\ Phy r.1 fr M F' g' X' er') \/ (r.2 = 6 /\ r.1.off = true /\ Phy r.1 fr M F g X er)
 live : Live s -> r.2 = 0 /\ Live r.1
 dead : s.off = true -> r.2 = 6
theorem Phy.prog {N : Nat} (h : Phy s fr M F g X er) (ok : FlaM.Ok s N) (b : Bs) (hb : b.length = 128) (hg : g < M) (her : er = false) (i : Nat) (hi : i = (F g).length + X.length) (hip : i < s.pp) :
 Did s (FlaM.progF s ((fr + g : Nat) : Int) (i : Int) b) fr M F F g g X (X ++ [b]) er false := by
 have ht : FlaM.there s ((fr + g : Nat) : Int) (i : Int) = true := by
  unfold FlaM.there
  have := h.len
  simp
  omega
 have hnow : FlaM.now s (fr + g) i = FlaM.blank := by
  rw [h.now g i hg hip]
  unfold onSeg
  rw [if_pos rfl, List.getD_eq_getElem?_getD, List.getElem?_eq_none (by rw [List.length_append]; omega)]
  rfl
 have e0 : FlaM.progF s ((fr + g : Nat) : Int) (i : Int) b = if s.off then (s, 6) else if (FlaM.trip s).off then (FlaM.trip s, 6) else (FlaM.okd { FlaM.trip s with L := (FlaM.trip s).L ++ [⟨fr + g, (i : Int), b⟩] }, 0) := by
  unfold FlaM.progF
  rw [if_neg (by rw [ht]; simp [hb])]
  simp only [Int.toNat_natCast]
  by_cases ho : s.off = true
  · rw [if_pos ho, if_pos ho]
  · rw [if_neg ho, if_neg ho, if_neg (by rw [hnow]; simp)]
 rw [e0]
 obtain ⟨t1, t2, t3⟩ := trip_same s
 by_cases ho : s.off = true
 · rw [if_pos ho]
   exact ⟨rfl, .inr ⟨rfl, ho, h⟩, fun hl => absurd ho (by rw [hl.1]; decide), fun _ => rfl⟩
 rw [if_neg ho]
 by_cases ht' : (FlaM.trip s).off = true
 · rw [if_pos ht']
   exact ⟨t3, .inr ⟨rfl, ht', h.trip⟩, fun hl => by rw [live_trip hl] at ht'; exact absurd ht' ho, fun h => absurd h ho⟩
 rw [if_neg ht']
 refine ⟨t3, .inl ⟨rfl, ?_⟩, fun hl => ⟨rfl, ?_⟩, fun h => absurd h ho⟩
 · refine ⟨?_, ?_, ?_, (fun h => by cases h), .inl hg, ?_, ?_, h.pages.1, ?_⟩
   · show (FlaM.trip s).safe.length = _
     rw [t1]; exact h.len
   · intro j hj i' hi'
     show pageAt (FlaM.trip s).safe (fr + j) i' = _
     rw [t1]
     exact h.rows j hj i' (by rw [<- t3]; exact hi')
   · show (FlaM.trip s).L ++ [⟨fr + g, (i : Int), b⟩] = _
     rw [t2, h.log, her]
     simp only [Bool.false_eq_true, if_false]
     rw [progsFrom_snoc, hi]
   · intro j hj
     show _ <= (FlaM.trip s).pp
     rw [t3]; exact h.room j hj
   · show _ <= (FlaM.trip s).pp
     rw [t3, List.length_append, List.length_singleton]; omega
   · intro p hp
     rcases List.mem_append.1 hp with hp | hp
     · exact h.pages.2 p hp
     · rw [List.mem_singleton.1 hp]; exact hb
 · have hl2 : Live { FlaM.trip s with L := (FlaM.trip s).L ++ [⟨fr + g, (i : Int), b⟩] } := by
    rw [live_trip hl]; exact ⟨hl.1, hl.2⟩
   exact live_okd hl2
theorem Phy.erase {N : Nat} (h : Phy s fr M F g X er) (ok : FlaM.Ok s N) (hX : X = []) (her : er = false) (g' : Nat) (hg : g' < M) (hF : F g' = []) :
 Did s (FlaM.erase s ((fr + g' : Nat) : Int)) fr M F F g g' X [] er true := by
 have ht : FlaM.there s ((fr + g' : Nat) : Int) 0 = true := by
  unfold FlaM.there
  have := h.len
  have := ok.pp
  simp
  omega
 have e0 : FlaM.erase s ((fr + g' : Nat) : Int) = if (FlaM.trip s).off then (FlaM.trip s, 6) else (FlaM.okd { FlaM.trip s with L := (FlaM.trip s).L ++ [⟨fr + g', -1, []⟩], wear := FlaM.bump (FlaM.trip s).wear (fr + g') }, 0) := by
  unfold FlaM.erase
  rw [if_neg (by rw [ht]; decide)]
  rfl
 rw [e0]
 obtain ⟨t1, t2, t3⟩ := trip_same s
 have hdead : s.off = true -> (FlaM.trip s).off = true := by
  intro ho
  unfold FlaM.trip
  split
  · rfl
  · exact ho
 by_cases ht' : (FlaM.trip s).off = true
 · rw [if_pos ht']
   exact ⟨t3, .inr ⟨rfl, ht', h.trip⟩, (fun hl => by rw [live_trip hl, hl.1] at ht'; cases ht'), fun _ => rfl⟩
 rw [if_neg ht']
 refine ⟨t3, .inl ⟨rfl, ?_⟩, fun hl => ⟨rfl, ?_⟩, fun ho => absurd (hdead ho) ht'⟩
 · refine ⟨?_, ?_, ?_, fun _ => ⟨hF, rfl⟩, .inl hg, ?_, ?_, h.pages.1, fun p hp => by cases hp⟩
   · show (FlaM.trip s).safe.length = _
     rw [t1]; exact h.len
   · intro j hj i' hi'
     show pageAt (FlaM.trip s).safe (fr + j) i' = _
     rw [t1]
     exact h.rows j hj i' (by rw [<- t3]; exact hi')
   · show (FlaM.trip s).L ++ [⟨fr + g', -1, []⟩] = _
     rw [t2, h.log, her, hX]
     rfl
   · intro j hj
     show _ <= (FlaM.trip s).pp
     rw [t3]; exact h.room j hj
   · show _ <= (FlaM.trip s).pp
     rw [hF]; exact Nat.zero_le _
 · have hl2 : Live { FlaM.trip s with L := (FlaM.trip s).L ++ [⟨fr + g', -1, []⟩], wear := FlaM.bump (FlaM.trip s).wear (fr + g') } := by
    rw [live_trip hl]; exact ⟨hl.1, hl.2⟩
   exact live_okd hl2
theorem Phy.barrier {N : Nat} (h : Phy s fr M F g X er) (ok : FlaM.Ok s N) :
 Did s (FlaM.barrier s) fr M F (onSeg F g X) g g X [] er false := by
 have e0 : FlaM.barrier s = if (FlaM.trip s).off then (FlaM.trip s, 6) else (FlaM.okd (FlaM.some' (FlaM.trip s) (List.replicate (FlaM.trip s).L.length 128)), 0) := rfl
 rw [e0]
 obtain ⟨t1, t2, t3⟩ := trip_same s
 have hdead : s.off = true -> (FlaM.trip s).off = true := by
  intro ho
  unfold FlaM.trip
  split
  · rfl
  · exact ho
 by_cases ht' : (FlaM.trip s).off = true
 · rw [if_pos ht']
   exact ⟨t3, .inr ⟨rfl, ht', h.trip⟩, (fun hl => by rw [live_trip hl, hl.1] at ht'; cases ht'), fun _ => rfl⟩
 rw [if_neg ht']
 refine ⟨t3, .inl ⟨rfl, ?_⟩, fun hl => ⟨rfl, ?_⟩, fun ho => absurd (hdead ho) ht'⟩
 · have hs := h.shape ok
   have hsafe : ∀ j, j < M -> ∀ i, i < s.pp -> pageAt (doAll s.pp (List.replicate s.L.length 128) s.safe 0 s.L) (fr + j) i = (onSeg F g X j).getD i FlaM.blank := by
    intro j hj i hi
    rw [h.log]
    cases er
    · simp only [Bool.false_eq_true, if_false]
      rcases h.gM with hg | ⟨hX, _⟩
      · rw [doAll_progs s.pp _ (fr + g) (fr + M) (by omega) X _ 0 s.safe hs h.roomX h.pages.2, h.rows j hj i hi, progsFrom_len]
        unfold onSeg
        by_cases hc : fr + j = fr + g /\ (F g).length <= i /\ i < (F g).length + X.length
        · obtain ⟨h1, h2, h3⟩ := hc
          have hjg : j = g := by omega
          subst hjg
          rw [if_pos ⟨rfl, h2, h3⟩, if_pos rfl, getD_append, if_neg (by omega), Nat.zero_add]
          have hx : X.getD (i - (F j).length) [] = X.getD (i - (F j).length) FlaM.blank := by
           rw [List.getD_eq_getElem?_getD, List.getD_eq_getElem?_getD, List.getElem?_eq_getElem (by omega)]; rfl
          have hx2 : (X.getD (i - (F j).length) FlaM.blank).length = 128 := by
           rw [List.getD_eq_getElem?_getD, List.getElem?_eq_getElem (show i - (F j).length < X.length by omega)]
           exact h.pages.2 _ (List.getElem_mem _)
          have hf : (List.replicate X.length (128 : Int)).getD (i - (F j).length) 0 = 128 := by
           rw [List.getD_eq_getElem?_getD, List.getElem?_replicate, if_pos (by omega)]; rfl
          rw [hf, hx, show (min ((128 : Int).toNat) 128) = 128 from rfl, List.take_of_length_le (by omega), List.getD_eq_getElem?_getD (l := F j), List.getElem?_eq_none (show (F j).length <= i from h2), Option.getD_none, List.drop_of_length_le (by rw [FlaM.blank_len]; exact Nat.le_refl _), List.append_nil]
        · rw [if_neg hc]
          by_cases hjg : j = g
          · subst hjg
            rw [if_pos rfl, getD_append]
            split
            · rfl
            · rw [List.getD_eq_getElem?_getD, List.getD_eq_getElem?_getD, List.getElem?_eq_none (by omega), List.getElem?_eq_none (by omega)]
          · rw [if_neg hjg]
      · subst hX
        show pageAt s.safe (fr + j) i = _
        rw [h.rows j hj i hi]
        unfold onSeg
        split <;> simp
    · obtain ⟨e1, e2⟩ := h.erF rfl
      simp only [if_true]
      have e : pageAt (doOne s.pp s.safe ⟨fr + g, -1, []⟩ ((List.replicate ([⟨fr + g, -1, []⟩] : List FlaM.Act).length (128 : Int)).getD 0 0)) (fr + j) i = (F j).getD i FlaM.blank := by
       unfold FlaM.doOne
       simp only
       rw [if_neg (by omega)]
       exact clear_blank h ok rfl _ (by omega) j i hi hj
      show pageAt (doOne s.pp s.safe ⟨fr + g, -1, []⟩ ((List.replicate ([⟨fr + g, -1, []⟩] : List FlaM.Act).length (128 : Int)).getD 0 0)) (fr + j) i = _
      rw [e]
      unfold onSeg
      split
      · rw [e2, List.append_nil]
      · rfl
   have hacts : ∀ a ∈ s.L, a.seg < fr + M /\ ((0 <= a.page /\ a.page < (s.pp : Int) /\ a.b.length = 128) \/ (a.page = -1 /\ a.b = [])) := by
    intro a ha
    have := ok.acts a ha
    rwa [h.len] at this
   have hsh := FlaM.shape_all (List.replicate s.L.length 128) s.L s.safe 0 hs hacts
   refine ⟨?_, ?_, rfl, (fun h => by cases h), .inr ⟨rfl, rfl⟩, ?_, ?_, ⟨?_, fun p hp => by cases hp⟩⟩
   · show (doAll (FlaM.trip s).pp (List.replicate (FlaM.trip s).L.length 128) (FlaM.trip s).safe 0 (FlaM.trip s).L).length = _
     rw [t1, t2, t3]; exact hsh.len
   · intro j hj i hi
     show pageAt (doAll (FlaM.trip s).pp (List.replicate (FlaM.trip s).L.length 128) (FlaM.trip s).safe 0 (FlaM.trip s).L) (fr + j) i = _
     rw [t1, t2, t3]
     exact hsafe j hj i (by rw [<- t3]; exact hi)
   · intro j hj
     show _ <= (FlaM.trip s).pp
     rw [t3]
     unfold onSeg
     split
     · rename_i h1
       subst h1
       rw [List.length_append]
       exact h.roomX
     · exact h.room j hj
   · show _ + 0 <= (FlaM.trip s).pp
     rw [t3]
     unfold onSeg
     rw [if_pos rfl, List.length_append]
     exact h.roomX
   · intro j p hp
     unfold onSeg at hp
     split at hp
     · rcases List.mem_append.1 hp with hp | hp
       · exact h.pages.1 j p hp
       · exact h.pages.2 p hp
     · exact h.pages.1 j p hp
 · have hl2 : Live (FlaM.some' (FlaM.trip s) (List.replicate (FlaM.trip s).L.length 128)) := by
    rw [live_trip hl]; exact ⟨hl.1, hl.2⟩
   exact live_okd hl2
end
end Go.LogM
end
section
namespace Go.TabM
structure Sg where
 kind : Nat
 seq : Nat
 wear : Nat
def zS : Sg := ⟨0, 0, 0⟩
structure T where
 rows : List Sg
 next : Nat
def at_ (l : List Sg) (i : Nat) : Sg := l.getD i zS
def curF : Nat -> List Sg -> Option Nat
 | _, [] => none
 | i, s :: l => if s.kind = 1 then some i else curF (i + 1) l
def cur (t : T) : Option Nat := curF 0 t.rows
def takes (b : Option (Nat × Nat)) (s : Sg) : Bool := decide (s.kind = 0) && (match b with | none => true | some p => decide (s.wear < p.2))
def bestF : Option (Nat × Nat) -> Nat -> List Sg -> Option (Nat × Nat)
 | b, _, [] => b
 | b, i, s :: l => bestF (if takes b s then some (i, s.wear) else b) (i + 1) l
def best (t : T) : Option (Nat × Nat) := bestF none 0 t.rows
def opened (t : T) (i w : Nat) : T := ⟨t.rows.set i ⟨1, t.next, w + 1⟩, t.next + 1⟩
def openT (t : T) : T × (Nat × Nat × Nat) :=
 match cur t with
 | some _ => (t, (0, 0, 3))
 | none => match best t with
  | none => (t, (0, 0, 5))
  | some (i, w) => (opened t i w, (i, t.next, 0))
def sealT (t : T) : T × Nat :=
 match cur t with
 | none => (t, 2)
 | some i => (⟨t.rows.set i { at_ t.rows i with kind := 2 }, t.next⟩, 0)
def aheadN (rows : List Sg) (q : Nat) : List Nat -> Nat
 | [] => 0
 | i :: l => if (at_ rows i).seq <= q then aheadN rows q l + 1 else 0
def ins (rows : List Sg) (l : List Nat) (i : Nat) : List Nat := l.take (aheadN rows (at_ rows i).seq l) ++ i :: l.drop (aheadN rows (at_ rows i).seq l)
def sealedF (rows : List Sg) : List Nat -> Nat -> List Sg -> List Nat
 | acc, _, [] => acc
 | acc, i, s :: l => sealedF rows (if s.kind = 2 then ins rows acc i else acc) (i + 1) l
def sealedL (t : T) : List Nat := sealedF t.rows [] 0 t.rows
def fresh (n : Nat) : T := ⟨List.replicate n zS, 1⟩
def mayBe (n : Int) : Bool := decide (0 <= n) && decide (n <= 256)
theorem at_eq {l : List Sg} {i : Nat} {s : Sg} (h : l[i]? = some s) : at_ l i = s := by unfold at_; rw [List.getD_eq_getElem?_getD, h]; rfl
theorem at_get {l : List Sg} {i : Nat} (h : i < l.length) : l[i]? = some (at_ l i) := by
 unfold at_; rw [List.getD_eq_getElem?_getD, List.getElem?_eq_getElem h]; rfl
theorem at_mem {l : List Sg} {i : Nat} (h : i < l.length) : at_ l i ∈ l := List.mem_of_getElem? (at_get h)
structure Ok (t : T) (N : Nat) : Prop where
 len : t.rows.length <= 256
 kind : ∀ s ∈ t.rows, s.kind <= 2
 wear : ∀ s ∈ t.rows, s.wear <= N
 seq : ∀ s ∈ t.rows, s.seq <= N
 low : 1 <= t.next
 next : t.next <= N + 1
theorem Ok.more {t : T} {N M : Nat} (h : Ok t N) (hm : N <= M) : Ok t M :=
 ⟨h.len, h.kind, fun s hs => Nat.le_trans (h.wear s hs) hm, fun s hs => Nat.le_trans (h.seq s hs) hm, h.low, by have := h.next; omega⟩
theorem curF_some : ∀ (l : List Sg) (j i : Nat), curF j l = some i -> ∃ k s, i = j + k /\ l[k]? = some s /\ s.kind = 1
 | [], _, _, h => by cases h
 | s :: l, j, i, h => by
  unfold curF at h
  by_cases hs : s.kind = 1
  · rw [if_pos hs] at h
    cases h
    exact ⟨0, s, rfl, rfl, hs⟩
  · rw [if_neg hs] at h
    obtain ⟨k, s', e, h1, h2⟩ := curF_some l (j + 1) i h
    exact ⟨k + 1, s', by omega, h1, h2⟩
theorem cur_some {t : T} {i : Nat} (h : cur t = some i) : i < t.rows.length /\ (at_ t.rows i).kind = 1 := by
 obtain ⟨k, s, e, h1, h2⟩ := curF_some _ _ _ h
 rw [Nat.zero_add] at e
 subst e
 exact ⟨(List.getElem?_eq_some_iff.1 h1).1, by rw [at_eq h1]; exact h2⟩
theorem curF_none : ∀ (l : List Sg) (j : Nat), curF j l = none -> ∀ s ∈ l, s.kind ≠ 1
 | [], _, _, s, hs => by cases hs
 | x :: l, j, h, s, hs => by
  unfold curF at h
  by_cases hx : x.kind = 1
  · rw [if_pos hx] at h; cases h
  · rw [if_neg hx] at h
    rcases List.mem_cons.1 hs with rfl | hs
    · exact hx
    · exact curF_none l _ h s hs
theorem bestF_some : ∀ (l : List Sg) (b : Option (Nat × Nat)) (j : Nat) (p : Nat × Nat), bestF b j l = some p -> b = some p \/ ∃ k s, p.1 = j + k /\ l[k]? = some s /\ s.kind = 0 /\ s.wear = p.2
 | [], b, j, p, h => .inl h
 | x :: l, b, j, p, h => by
  unfold bestF at h
  rcases bestF_some l _ _ _ h with h1 | ⟨k, s, e, h1, h2, h3⟩
  · by_cases ht : takes b x = true
    · rw [if_pos ht] at h1
      cases h1
      refine .inr ⟨0, x, rfl, rfl, ?_, rfl⟩
      unfold takes at ht
      simp only [Bool.and_eq_true, decide_eq_true_eq] at ht
      exact ht.1
    · rw [if_neg ht] at h1
      exact .inl h1
  · exact .inr ⟨k + 1, s, by omega, h1, h2, h3⟩
theorem best_some {t : T} {i w : Nat} (h : best t = some (i, w)) : i < t.rows.length /\ (at_ t.rows i).kind = 0 /\ (at_ t.rows i).wear = w := by
 rcases bestF_some _ _ _ _ h with h1 | ⟨k, s, e, h1, h2, h3⟩
 · cases h1
 · simp only [Nat.zero_add] at e h3
   subst e
   exact ⟨(List.getElem?_eq_some_iff.1 h1).1, by rw [at_eq h1]; exact h2, by rw [at_eq h1]; exact h3⟩
theorem mem_set {l : List Sg} {i : Nat} {x s : Sg} (h : s ∈ l.set i x) : s = x \/ s ∈ l := by
 rcases List.mem_or_eq_of_mem_set h with h | h
 · exact .inr h
 · exact .inl h
theorem ok_open {t : T} {N : Nat} (h : Ok t N) : Ok (openT t).1 (N + 1) := by
 unfold openT
 split
 · exact h.more (Nat.le_succ _)
 · split
   · exact h.more (Nat.le_succ _)
   · rename_i i w hb
     obtain ⟨hi, hk, hw⟩ := best_some hb
     have hwN : w <= N := by rw [<- hw]; exact h.wear _ (at_mem hi)
     refine ⟨by simpa [opened] using h.len, ?_, ?_, ?_, by have := h.low; simp [opened], by have := h.next; simp [opened]; omega⟩
     · intro s hs
       rcases mem_set hs with rfl | hs
       · exact Nat.le_succ 1
       · exact h.kind s hs
     · intro s hs
       rcases mem_set hs with rfl | hs
       · show w + 1 <= N + 1; omega
       · exact Nat.le_succ_of_le (h.wear s hs)
     · intro s hs
       rcases mem_set hs with rfl | hs
       · exact h.next
       · exact Nat.le_succ_of_le (h.seq s hs)
theorem ok_seal {t : T} {N : Nat} (h : Ok t N) : Ok (sealT t).1 N := by
 unfold sealT
 split
 · exact h
 · rename_i i hc
   obtain ⟨hi, _⟩ := cur_some hc
   refine ⟨by simpa using h.len, ?_, ?_, ?_, h.low, h.next⟩ <;> intro s hs <;> rcases mem_set hs with rfl | hs
   · exact Nat.le_refl 2
   · exact h.kind s hs
   · exact h.wear (at_ t.rows i) (at_mem hi)
   · exact h.wear s hs
   · exact h.seq (at_ t.rows i) (at_mem hi)
   · exact h.seq s hs
theorem ins_mem {rows : List Sg} {l : List Nat} {i j : Nat} (h : j ∈ ins rows l i) : j = i \/ j ∈ l := by
 unfold ins at h
 rcases List.mem_append.1 h with h | h
 · exact .inr (List.mem_of_mem_take h)
 · rcases List.mem_cons.1 h with h | h
   · exact .inl h
   · exact .inr (List.mem_of_mem_drop h)
structure LoadOk (rows : List Sg) (next : Nat) : Prop where
 len : rows.length <= 256
 low : 1 <= next
 free : ∀ s ∈ rows, s.kind = 0 -> s.seq = 0
 used : ∀ s ∈ rows, s.kind ≠ 0 -> s.kind <= 2 /\ 1 <= s.seq /\ s.seq < next
 apart : ∀ i j (hi : i < rows.length) (hj : j < rows.length), i ≠ j -> rows[i].seq = rows[j].seq -> rows[i].seq = 0
 one : ∀ i j (hi : i < rows.length) (hj : j < rows.length), rows[i].kind = 1 -> rows[j].kind = 1 -> i = j
theorem at_lt {l : List Sg} {i : Nat} (h : i < l.length) : at_ l i = l[i] := at_eq (List.getElem?_eq_getElem h)
end Go.TabM
end
section
namespace Go.LogM
open TabM (Sg zS T at_)
def rowAt (k : Nat) (op : Bool) (i : Nat) : Sg := if i < k then ⟨if op = true /\ i + 1 = k then 1 else 2, i + 1, 1⟩ else zS
theorem rowAt_seq {k i : Nat} {op : Bool} (h : i < k) : (rowAt k op i).seq = i + 1 := by unfold rowAt; rw [if_pos h]
def tabOf (M k : Nat) (op : Bool) : T := ⟨(List.range M).map (rowAt k op), k + 1⟩
theorem tab_len (M k : Nat) (op : Bool) : (tabOf M k op).rows.length = M := by simp [tabOf]
theorem tab_at {M k : Nat} {op : Bool} {i : Nat} (h : i < M) : at_ (tabOf M k op).rows i = rowAt k op i := by
 apply TabM.at_eq
 show ((List.range M).map (rowAt k op))[i]? = _
 rw [List.getElem?_map, List.getElem?_range h]; rfl
theorem tab_fresh (M : Nat) : TabM.fresh M = tabOf M 0 false := by
 unfold TabM.fresh tabOf
 congr 1
 apply List.ext_getElem?
 intro i
 rw [List.getElem?_replicate, List.getElem?_map]
 by_cases h : i < M
 · rw [if_pos h, List.getElem?_range h]; rfl
 · rw [if_neg h, List.getElem?_eq_none (by simpa using h)]; rfl
theorem curF_first : ∀ (l : List Sg) (j n : Nat), n < l.length -> (∀ i, i < n -> (at_ l i).kind ≠ 1) -> (at_ l n).kind = 1 -> TabM.curF j l = some (j + n)
 | [], _, _, h, _, _ => absurd h (Nat.not_lt_zero _)
 | s :: l, j, 0, _, _, h => by
  have h' : s.kind = 1 := h
  unfold TabM.curF
  rw [if_pos h']; rfl
 | s :: l, j, n + 1, h, h1, h2 => by
  have h' : ¬ s.kind = 1 := h1 0 (Nat.succ_pos _)
  unfold TabM.curF
  rw [if_neg h', curF_first l (j + 1) n (by simpa using h) (fun i hi => h1 (i + 1) (Nat.succ_lt_succ hi)) h2]
  congr 1; omega
theorem curF_no : ∀ (l : List Sg) (j : Nat), (∀ s ∈ l, s.kind ≠ 1) -> TabM.curF j l = none
 | [], _, _ => rfl
 | s :: l, j, h => by
  unfold TabM.curF
  rw [if_neg (h s List.mem_cons_self)]
  exact curF_no l _ (fun x hx => h x (List.mem_cons_of_mem _ hx))
theorem tab_cur {M k : Nat} (h : 0 < k) (hM : k <= M) : TabM.cur (tabOf M k true) = some (k - 1) := by
 have := curF_first (tabOf M k true).rows 0 (k - 1) (by rw [tab_len]; omega) ?_ ?_
 · rw [Nat.zero_add] at this; exact this
 · intro i hi
   rw [tab_at (by omega)]
   unfold rowAt
   rw [if_pos (by omega), if_neg (by omega)]
   simp
 · rw [tab_at (by omega)]
   unfold rowAt
   rw [if_pos (by omega), if_pos ⟨rfl, by omega⟩]
theorem tab_mem {M k : Nat} {op : Bool} {s : Sg} (h : s ∈ (tabOf M k op).rows) : ∃ i, i < M /\ s = rowAt k op i := by
 obtain ⟨i, hi, rfl⟩ := List.mem_map.1 h
 exact ⟨i, List.mem_range.1 hi, rfl⟩
theorem tab_nocur (M k : Nat) : TabM.cur (tabOf M k false) = none := by
 refine curF_no _ _ ?_
 intro s hs
 obtain ⟨i, hi, rfl⟩ := tab_mem hs
 unfold rowAt
 split
 · simp
 · decide
theorem bestF_stay : ∀ (l : List Sg) (i j : Nat), TabM.bestF (some (i, 0)) j l = some (i, 0)
 | [], _, _ => rfl
 | s :: l, i, j => by
  unfold TabM.bestF
  rw [if_neg (by simp [TabM.takes])]
  exact bestF_stay l i _
theorem bestF_first : ∀ (l : List Sg) (j n : Nat), n < l.length -> (∀ i, i < n -> (at_ l i).kind ≠ 0) -> at_ l n = zS -> TabM.bestF none j l = some (j + n, 0)
 | [], _, _, h, _, _ => absurd h (Nat.not_lt_zero _)
 | s :: l, j, 0, _, _, h => by
  have hs : s = zS := h
  subst hs
  have ht : TabM.takes none zS = true := by decide
  unfold TabM.bestF
  rw [if_pos ht]
  exact bestF_stay l _ _
 | s :: l, j, n + 1, h, h1, h2 => by
  have hs : s.kind ≠ 0 := h1 0 (Nat.succ_pos _)
  unfold TabM.bestF
  rw [if_neg (by simp [TabM.takes, hs]), bestF_first l (j + 1) n (by simpa using h) (fun i hi => h1 (i + 1) (Nat.succ_lt_succ hi)) h2]
  congr 2; omega
theorem tab_best {M k : Nat} (h : k < M) : TabM.best (tabOf M k false) = some (k, 0) := by
 have := bestF_first (tabOf M k false).rows 0 k (by rw [tab_len]; exact h) ?_ ?_
 · rw [Nat.zero_add] at this; exact this
 · intro i hi
   rw [tab_at (by omega)]
   unfold rowAt
   rw [if_pos hi]
   simp
 · rw [tab_at h]
   unfold rowAt
   rw [if_neg (by omega)]
theorem map_set_range {α : Type} (f g : Nat -> α) (M i : Nat) (x : α) (hi : f i = x) (h : ∀ j, j ≠ i -> f j = g j) : ((List.range M).map g).set i x = (List.range M).map f := by
 apply List.ext_getElem?
 intro j
 rw [List.getElem?_set]
 by_cases hj : i = j
 · subst hj
   rw [if_pos rfl]
   by_cases hM : i < M
   · rw [if_pos (by simpa using hM), List.getElem?_map, List.getElem?_range hM, Option.map_some, hi]
   · rw [if_neg (by simpa using hM), List.getElem?_map, List.getElem?_eq_none (by simpa using hM)]; rfl
 · rw [if_neg hj, List.getElem?_map, List.getElem?_map]
   by_cases hM : j < M
   · rw [List.getElem?_range hM, Option.map_some, Option.map_some, h j (fun e => hj e.symm)]
   · rw [List.getElem?_eq_none (by simpa using hM)]; rfl
theorem tab_open {M k : Nat} (h : k < M) : TabM.openT (tabOf M k false) = (tabOf M (k + 1) true, (k, k + 1, 0)) := by
 unfold TabM.openT
 rw [tab_nocur, tab_best h]
 simp only
 refine Prod.ext ?_ rfl
 show TabM.opened (tabOf M k false) k 0 = _
 unfold TabM.opened tabOf
 simp only
 congr 1
 refine map_set_range (rowAt (k + 1) true) (rowAt k false) M k _ ?_ ?_
 · unfold rowAt
   rw [if_pos (by omega), if_pos ⟨rfl, rfl⟩]
 · intro j hj
   unfold rowAt
   by_cases h1 : j < k
   · rw [if_pos (by omega), if_pos h1, if_neg (by omega), if_neg (by simp)]
   · rw [if_neg (by omega), if_neg h1]
theorem tab_seal {M k : Nat} (h : 0 < k) (hM : k <= M) : TabM.sealT (tabOf M k true) = (tabOf M k false, 0) := by
 unfold TabM.sealT
 rw [tab_cur h hM]
 simp only
 refine Prod.ext ?_ rfl
 have e1 : rowAt k true (k - 1) = ⟨1, k - 1 + 1, 1⟩ := by unfold rowAt; rw [if_pos (by omega), if_pos ⟨rfl, by omega⟩]
 have e2 : rowAt k false (k - 1) = ⟨2, k - 1 + 1, 1⟩ := by unfold rowAt; rw [if_pos (by omega), if_neg (by simp)]
 rw [tab_at (by omega), e1]
 unfold tabOf
 simp only
 congr 1
 refine map_set_range (rowAt k false) (rowAt k true) M (k - 1) _ ?_ ?_
 · exact e2
 · intro j hj
   unfold rowAt
   by_cases h1 : j < k
   · rw [if_pos h1, if_pos h1, if_neg (by simp), if_neg (by omega)]
   · rw [if_neg h1, if_neg h1]
theorem tab_ok {M k N : Nat} (op : Bool) (hM : M <= 256) (hk : k <= N) (hN : 1 <= N) : TabM.Ok (tabOf M k op) N := by
 refine ⟨by rw [tab_len]; exact hM, ?_, ?_, ?_, Nat.succ_pos _, Nat.succ_le_succ hk⟩
 all_goals
  intro s hs
  obtain ⟨i, hi, rfl⟩ := tab_mem hs
  unfold rowAt
  split
 · show (if _ then 1 else 2) <= 2
   split <;> omega
 · exact Nat.zero_le _
 · exact hN
 · exact Nat.zero_le _
 · show i + 1 <= N; omega
 · exact Nat.zero_le _
theorem ahead_all (rows : List Sg) (q : Nat) : ∀ l : List Nat, (∀ i ∈ l, (at_ rows i).seq <= q) -> TabM.aheadN rows q l = l.length
 | [], _ => rfl
 | i :: l, h => by
  unfold TabM.aheadN
  rw [if_pos (h i List.mem_cons_self), ahead_all rows q l (fun x hx => h x (List.mem_cons_of_mem _ hx))]; rfl
theorem sealedF_range {M k : Nat} (hM : k <= M) : ∀ (d i : Nat), i + d = M -> TabM.sealedF (tabOf M k false).rows (List.range (min i k)) i ((tabOf M k false).rows.drop i) = List.range k
 | 0, i, h => by
  rw [List.drop_of_length_le (by rw [tab_len]; omega), Nat.min_eq_right (by omega)]; rfl
 | d + 1, i, h => by
  have hi : i < (tabOf M k false).rows.length := by rw [tab_len]; omega
  rw [List.drop_eq_getElem_cons hi]
  have e : (tabOf M k false).rows[i] = rowAt k false i := by
   have := tab_at (M := M) (k := k) (op := false) (i := i) (by omega)
   rw [TabM.at_lt hi] at this; exact this
  unfold TabM.sealedF
  rw [e]
  have hn : (if (rowAt k false i).kind = 2 then TabM.ins (tabOf M k false).rows (List.range (min i k)) i else List.range (min i k)) = List.range (min (i + 1) k) := by
   by_cases hik : i < k
   · have hk2 : (rowAt k false i).kind = 2 := by unfold rowAt; rw [if_pos hik]; simp
     rw [if_pos hk2]
     unfold TabM.ins
     rw [ahead_all, List.take_of_length_le (Nat.le_refl _), List.drop_of_length_le (Nat.le_refl _), Nat.min_eq_left (by omega), Nat.min_eq_left (by omega), List.range_succ]
     intro x hx
     have hx2 : x < i := by have := List.mem_range.1 hx; omega
     rw [tab_at (by omega), tab_at (by omega)]
     rw [rowAt_seq (by omega), rowAt_seq (by omega)]; omega
   · have hk2 : ¬ (rowAt k false i).kind = 2 := by unfold rowAt; rw [if_neg hik]; decide
     rw [if_neg hk2, Nat.min_eq_right (by omega), Nat.min_eq_right (by omega)]
  rw [hn]
  exact sealedF_range hM d (i + 1) (by omega)
theorem tab_sealed {M k : Nat} (hM : k <= M) : TabM.sealedL (tabOf M k false) = List.range k := by
 have := sealedF_range hM M 0 (by omega)
 rw [Nat.zero_min, List.drop_zero] at this
 exact this
theorem sealedF_rangeO {M k : Nat} (h0 : 0 < k) (hM : k <= M) : ∀ (d i : Nat), i + d = M -> TabM.sealedF (tabOf M k true).rows (List.range (min i (k - 1))) i ((tabOf M k true).rows.drop i) = List.range (k - 1)
 | 0, i, h => by
  rw [List.drop_of_length_le (by rw [tab_len]; omega), Nat.min_eq_right (by omega)]; rfl
 | d + 1, i, h => by
  have hi : i < (tabOf M k true).rows.length := by rw [tab_len]; omega
  rw [List.drop_eq_getElem_cons hi]
  have e : (tabOf M k true).rows[i] = rowAt k true i := by
   have := tab_at (M := M) (k := k) (op := true) (i := i) (by omega)
   rw [TabM.at_lt hi] at this; exact this
  unfold TabM.sealedF
  rw [e]
  have hn : (if (rowAt k true i).kind = 2 then TabM.ins (tabOf M k true).rows (List.range (min i (k - 1))) i else List.range (min i (k - 1))) = List.range (min (i + 1) (k - 1)) := by
   by_cases hik : i < k - 1
   · have hk2 : (rowAt k true i).kind = 2 := by unfold rowAt; rw [if_pos (by omega), if_neg (by omega)]
     rw [if_pos hk2]
     unfold TabM.ins
     rw [ahead_all, List.take_of_length_le (Nat.le_refl _), List.drop_of_length_le (Nat.le_refl _), Nat.min_eq_left (by omega), Nat.min_eq_left (by omega), List.range_succ]
     intro x hx
     have hx2 : x < i := by have := List.mem_range.1 hx; omega
     rw [tab_at (by omega), tab_at (by omega)]
     rw [rowAt_seq (by omega), rowAt_seq (by omega)]; omega
   · have hk2 : ¬ (rowAt k true i).kind = 2 := by
      unfold rowAt
      by_cases hk : i < k
      · rw [if_pos hk, if_pos ⟨rfl, by omega⟩]; simp
      · rw [if_neg hk]; decide
     rw [if_neg hk2, Nat.min_eq_right (by omega), Nat.min_eq_right (by omega)]
  rw [hn]
  exact sealedF_rangeO h0 hM d (i + 1) (by omega)
theorem tab_sealedO {M k : Nat} (h0 : 0 < k) (hM : k <= M) : TabM.sealedL (tabOf M k true) = List.range (k - 1) := by
 have := sealedF_rangeO h0 hM M 0 (by omega)
 rw [Nat.zero_min, List.drop_zero] at this
 exact this
end Go.LogM
end
section
namespace Go.LogM
open FlaM (FS)
structure LG where
 fs : FS
 tb : TabM.T
 a : Nat
def zP : Plc := ⟨0, 0, 0⟩
def closeL (σ : LG) : LG × Nat :=
 match TabM.cur σ.tb with
 | none => (σ, 0)
 | some _ => if (FlaM.barrier σ.fs).2 = 0 then (⟨(FlaM.barrier σ.fs).1, (TabM.sealT σ.tb).1, σ.a⟩, 0) else (⟨(FlaM.barrier σ.fs).1, σ.tb, σ.a⟩, (FlaM.barrier σ.fs).2)
def headL (g seq : Nat) (s : FS) : (FS × Nat) × Nat :=
 if (FlaM.erase s (g : Int)).2 ≠ 0 then (((FlaM.erase s (g : Int)).1, s.pp), (FlaM.erase s (g : Int)).2) else
 if (FlaM.barrier (FlaM.erase s (g : Int)).1).2 ≠ 0 then (((FlaM.barrier (FlaM.erase s (g : Int)).1).1, s.pp), (FlaM.barrier (FlaM.erase s (g : Int)).1).2) else
 if (FlaM.progF (FlaM.barrier (FlaM.erase s (g : Int)).1).1 (g : Int) ((0 : Nat) : Int) (hdr seq)).2 ≠ 0 then (((FlaM.progF (FlaM.barrier (FlaM.erase s (g : Int)).1).1 (g : Int) ((0 : Nat) : Int) (hdr seq)).1, s.pp), (FlaM.progF (FlaM.barrier (FlaM.erase s (g : Int)).1).1 (g : Int) ((0 : Nat) : Int) (hdr seq)).2) else
 (((FlaM.progF (FlaM.barrier (FlaM.erase s (g : Int)).1).1 (g : Int) ((0 : Nat) : Int) (hdr seq)).1, 1), 0)
def openL (fr : Nat) (σ : LG) : LG × Nat :=
 if (TabM.openT σ.tb).2.2.2 ≠ 0 then (⟨σ.fs, (TabM.openT σ.tb).1, σ.a⟩, (TabM.openT σ.tb).2.2.2) else
 (⟨(headL (fr + (TabM.openT σ.tb).2.1) (TabM.openT σ.tb).2.2.1 σ.fs).1.1, (TabM.openT σ.tb).1, (headL (fr + (TabM.openT σ.tb).2.1) (TabM.openT σ.tb).2.2.1 σ.fs).1.2⟩, (headL (fr + (TabM.openT σ.tb).2.1) (TabM.openT σ.tb).2.2.1 σ.fs).2)
def progsL (g : Nat) : FS -> Nat -> List Bs -> (FS × Nat) × Nat
 | s, a, [] => ((s, a), 0)
 | s, a, b :: r => if (FlaM.progF s (g : Int) (a : Int) b).2 = 0 then progsL g (FlaM.progF s (g : Int) (a : Int) b).1 (a + 1) r else (((FlaM.progF s (g : Int) (a : Int) b).1, a), (FlaM.progF s (g : Int) (a : Int) b).2)
def roomL (σ : LG) (m : Nat) : LG × Nat := if (TabM.cur σ.tb).isSome = true /\ σ.fs.pp < σ.a + m then closeL σ else (σ, 0)
def needL (fr : Nat) (σ : LG) : LG × Nat := if (TabM.cur σ.tb).isSome = true then (σ, 0) else openL fr σ
def putL (fr : Nat) (σ : LG) (ps : List Bs) : LG × (Plc × Nat) :=
 if (progsL (fr + (TabM.cur σ.tb).getD 0) σ.fs σ.a ps).2 ≠ 0 then (⟨(progsL (fr + (TabM.cur σ.tb).getD 0) σ.fs σ.a ps).1.1, σ.tb, (progsL (fr + (TabM.cur σ.tb).getD 0) σ.fs σ.a ps).1.2⟩, (zP, (progsL (fr + (TabM.cur σ.tb).getD 0) σ.fs σ.a ps).2))
 else (⟨(progsL (fr + (TabM.cur σ.tb).getD 0) σ.fs σ.a ps).1.1, σ.tb, (progsL (fr + (TabM.cur σ.tb).getD 0) σ.fs σ.a ps).1.2⟩, (⟨((TabM.cur σ.tb).getD 0 : Nat), σ.a, ps.length⟩, 0))
def appendL (fr : Nat) (σ : LG) (n : RecM.Nte) : LG × (Plc × Nat) :=
 if RecM.right n = false then (σ, (zP, 1)) else
 if σ.fs.pp < 1 + (notePages n).length then (σ, (zP, 4)) else
 if (roomL σ (notePages n).length).2 ≠ 0 then ((roomL σ (notePages n).length).1, (zP, (roomL σ (notePages n).length).2)) else
 if (needL fr (roomL σ (notePages n).length).1).2 ≠ 0 then ((needL fr (roomL σ (notePages n).length).1).1, (zP, (needL fr (roomL σ (notePages n).length).1).2)) else
 putL fr (needL fr (roomL σ (notePages n).length).1).1 (notePages n)
def full (k : Nat) (hd : Bool) (ex : List Bs) (Ns : Nat -> List RecM.Nte) (j : Nat) : List Bs :=
 if j + 1 = k /\ hd = false then [] else hdr (j + 1) :: ((Ns j).flatMap notePages ++ (if j + 1 = k then ex else []))
structure Inv (fr M : Nat) (σ : LG) (k : Nat) (op hd : Bool) (Ns : Nat -> List RecM.Nte) (ex : List Bs) (F : Nat -> List Bs) (X : List Bs) (er : Bool) : Prop where
 tb : σ.tb = tabOf M k op
 km : k <= M
 phy : Phy σ.fs fr M F (k - 1) X er
 new : ∀ j, k <= j -> F j = [] /\ Ns j = []
 all : ∀ j, j < k -> onSeg F (k - 1) X j = full k hd ex Ns j
 opn : op = true -> 0 < k
 at_ : op = true -> σ.a = if hd = true then (onSeg F (k - 1) X (k - 1)).length else σ.fs.pp
 shut : op = false -> X = [] /\ er = false /\ hd = true /\ ex = []
 bad : hd = false -> Ns (k - 1) = [] /\ ex = [] /\ σ.fs.off = true
 torn : ex = [] \/ (σ.fs.off = true /\ ∃ n c, c < (notePages n).length /\ ex = (notePages n).take c)
 er0 : er = true -> hd = false
 good : ∀ j, ∀ n ∈ Ns j, Good n
 pp : 2 <= σ.fs.pp
theorem Phy.move {s : FS} {fr M : Nat} {F : Nat -> List Bs} {g g' : Nat} (h : Phy s fr M F g [] false) (hg : g' < M) : Phy s fr M F g' [] false :=
 ⟨h.len, h.rows, h.log, fun h => (by cases h), .inr ⟨rfl, rfl⟩, h.room, h.room g' hg, h.pages⟩
section
variable {fr M : Nat} {σ : LG} {k : Nat} {op hd : Bool} {Ns : Nat -> List RecM.Nte} {ex : List Bs} {F : Nat -> List Bs} {X : List Bs} {er : Bool} {N : Nat}
theorem onSeg_nil (F : Nat -> List Bs) (g : Nat) : onSeg F g [] = F := by
 funext j
 unfold onSeg
 split
 · rw [List.append_nil]
 · rfl
theorem onSeg_twice (F : Nat -> List Bs) (g : Nat) (X : List Bs) (j : Nat) : onSeg (onSeg F g X) g [] j = onSeg F g X j := by rw [onSeg_nil]
theorem phy_fresh (fr M pp : Nat) : Phy (FlaM.fresh (fr + M) pp) fr M (fun _ => []) 0 [] false := by
 refine ⟨by simp [FlaM.fresh], ?_, rfl, fun h => (by cases h), .inr ⟨rfl, rfl⟩, fun _ _ => Nat.zero_le _, Nat.zero_le _, ⟨fun _ p hp => (by cases hp), fun p hp => (by cases hp)⟩⟩
 intro j hj i hi
 show ((List.replicate (fr + M) (List.replicate pp FlaM.blank)).getD (fr + j) []).getD i [] = FlaM.blank
 have hi' : i < pp := hi
 rw [List.getD_eq_getElem?_getD (l := List.replicate (fr + M) (List.replicate pp FlaM.blank)), List.getElem?_replicate, if_pos (by omega), Option.getD_some, List.getD_eq_getElem?_getD, List.getElem?_replicate, if_pos hi']
 rfl
theorem inv_fresh (fr M pp : Nat) (h2 : 2 <= pp) : Inv fr M ⟨FlaM.fresh (fr + M) pp, TabM.fresh M, pp⟩ 0 false true (fun _ => []) [] (fun _ => []) [] false :=
 ⟨tab_fresh M, Nat.zero_le _, phy_fresh fr M pp, fun _ _ => ⟨rfl, rfl⟩, fun j hj => absurd hj (Nat.not_lt_zero _), fun h => (by cases h), fun h => (by cases h), fun _ => ⟨rfl, rfl, rfl, rfl⟩, fun h => (by cases h), .inl rfl, fun h => (by cases h), fun _ n hn => (by cases hn), h2⟩
theorem full_ex {j : Nat} : full k true [] Ns j = hdr (j + 1) :: (Ns j).flatMap notePages := by
 unfold full
 rw [if_neg (by simp)]
 simp
theorem inv_close (h : Inv fr M σ k op hd Ns ex F X er) (ok : FlaM.Ok σ.fs N) :
 (closeL σ).1.fs.pp = σ.fs.pp /\ (((closeL σ).2 = 0 /\ Inv fr M (closeL σ).1 k false true Ns [] (onSeg F (k - 1) X) [] false /\ hd = true /\ ex = []) \/ ((closeL σ).2 = 6 /\ (closeL σ).1.fs.off = true /\ op = true /\ Inv fr M (closeL σ).1 k op hd Ns ex F X er)) /\ (Live σ.fs -> (closeL σ).2 = 0 /\ Live (closeL σ).1.fs) /\ FlaM.Ok (closeL σ).1.fs (N + 1) := by
 cases op
 · obtain ⟨hX, he, hh, hx⟩ := h.shut rfl
   subst hX hh hx he
   have e : closeL σ = (σ, 0) := by unfold closeL; rw [h.tb, tab_nocur]
   rw [e, onSeg_nil]
   exact ⟨rfl, .inl ⟨rfl, h, rfl, rfl⟩, fun hl => ⟨rfl, hl⟩, ok.more (Nat.le_succ _)⟩
 · have hk := h.opn rfl
   have hc : TabM.cur σ.tb = some (k - 1) := by rw [h.tb]; exact tab_cur hk h.km
   have D := h.phy.barrier ok
   have okb := FlaM.ok_barrier ok
   have hpp := D.pp
   by_cases hb : (FlaM.barrier σ.fs).2 = 0
   · have e : closeL σ = (⟨(FlaM.barrier σ.fs).1, (TabM.sealT σ.tb).1, σ.a⟩, 0) := by unfold closeL; rw [hc]; simp only; rw [if_pos hb]
     rw [e]
     have hoff : σ.fs.off ≠ true := fun ho => by have := D.dead ho; omega
     have hhd : hd = true := by
      cases hd
      · exact absurd (h.bad rfl).2.2 hoff
      · rfl
     have hex : ex = [] := by
      rcases h.torn with h1 | ⟨h1, _⟩
      · exact h1
      · exact absurd h1 hoff
     subst hhd hex
     have hphy : Phy (FlaM.barrier σ.fs).1 fr M (onSeg F (k - 1) X) (k - 1) [] false := by
      rcases D.or with ⟨_, hp⟩ | ⟨h6, _⟩
      · exact hp
      · omega
     refine ⟨hpp, .inl ⟨rfl, ?_, rfl, rfl⟩, fun hl => ⟨rfl, (D.live hl).2⟩, okb⟩
     refine ⟨?_, h.km, hphy, ?_, ?_, fun h => (by cases h), fun h => (by cases h), fun _ => ⟨rfl, rfl, rfl, rfl⟩, fun h => (by cases h), .inl rfl, fun h => (by cases h), h.good, ?_⟩
     · show (TabM.sealT σ.tb).1 = _
       rw [h.tb, tab_seal hk h.km]
     · intro j hj
       refine ⟨?_, (h.new j hj).2⟩
       unfold onSeg
       rw [if_neg (by omega)]
       exact (h.new j hj).1
     · intro j hj
       rw [onSeg_twice]
       exact h.all j hj
     · show 2 <= (FlaM.barrier σ.fs).1.pp
       rw [hpp]; exact h.pp
   · have e : closeL σ = (⟨(FlaM.barrier σ.fs).1, σ.tb, σ.a⟩, (FlaM.barrier σ.fs).2) := by unfold closeL; rw [hc]; simp only; rw [if_neg hb]
     rw [e]
     obtain ⟨h6, hof, hp⟩ : (FlaM.barrier σ.fs).2 = 6 /\ (FlaM.barrier σ.fs).1.off = true /\ Phy (FlaM.barrier σ.fs).1 fr M F (k - 1) X er := by
      rcases D.or with ⟨h0, _⟩ | hh
      · exact absurd h0 hb
      · exact hh
     refine ⟨hpp, .inr ⟨h6, hof, rfl, ?_⟩, fun hl => absurd (D.live hl).1 hb, okb⟩
     exact ⟨h.tb, h.km, hp, h.new, h.all, h.opn, fun ho => (h.at_ ho).trans (by show _ = if hd = true then _ else (FlaM.barrier σ.fs).1.pp; rw [hpp]), h.shut, fun hh => ⟨(h.bad hh).1, (h.bad hh).2.1, hof⟩, h.torn.imp id (fun ⟨_, hx⟩ => ⟨hof, hx⟩), h.er0, h.good, by show 2 <= (FlaM.barrier σ.fs).1.pp; rw [hpp]; exact h.pp⟩
theorem head_phy {s : FS} (h : Phy s fr M F k [] false) (ok : FlaM.Ok s N) (hk : k < M) (hF : F k = []) (seq : Nat) (hpp : 1 <= s.pp) :
 (headL (fr + k) seq s).1.1.pp = s.pp /\ (((headL (fr + k) seq s).2 = 0 /\ (headL (fr + k) seq s).1.2 = 1 /\ Phy (headL (fr + k) seq s).1.1 fr M F k [hdr seq] false) \/ ((headL (fr + k) seq s).2 = 6 /\ (headL (fr + k) seq s).1.2 = s.pp /\ (headL (fr + k) seq s).1.1.off = true /\ ∃ er', Phy (headL (fr + k) seq s).1.1 fr M F k [] er')) /\ (Live s -> (headL (fr + k) seq s).2 = 0 /\ Live (headL (fr + k) seq s).1.1) /\ FlaM.Ok (headL (fr + k) seq s).1.1 (N + 3) := by
 have D1 := h.erase ok rfl rfl k hk hF
 have ok1 := FlaM.ok_erase ok ((fr + k : Nat) : Int)
 generalize hr1 : FlaM.erase s ((fr + k : Nat) : Int) = r1 at D1 ok1
 by_cases h1 : r1.2 ≠ 0
 · have e : headL (fr + k) seq s = ((r1.1, s.pp), r1.2) := by unfold headL; rw [hr1, if_pos h1]
   rw [e]
   obtain ⟨h6, hof, hp⟩ : r1.2 = 6 /\ r1.1.off = true /\ Phy r1.1 fr M F k [] false := by
    rcases D1.or with ⟨h0, _⟩ | hh
    · exact absurd h0 h1
    · exact hh
   exact ⟨D1.pp, .inr ⟨h6, rfl, hof, false, hp⟩, fun hl => absurd (D1.live hl).1 h1, ok1.more (by omega)⟩
 have h1' : r1.2 = 0 := by omega
 have hp1 : Phy r1.1 fr M F k [] true := by
  rcases D1.or with ⟨_, hp⟩ | ⟨h6, _⟩
  · exact hp
  · omega
 have D2 := hp1.barrier ok1
 have ok2 := FlaM.ok_barrier ok1
 rw [onSeg_nil] at D2
 generalize hr2 : FlaM.barrier r1.1 = r2 at D2 ok2
 by_cases h2 : r2.2 ≠ 0
 · have e : headL (fr + k) seq s = ((r2.1, s.pp), r2.2) := by unfold headL; rw [hr1, if_neg h1, hr2, if_pos h2]
   rw [e]
   obtain ⟨h6, hof, hp⟩ : r2.2 = 6 /\ r2.1.off = true /\ Phy r2.1 fr M F k [] true := by
    rcases D2.or with ⟨h0, _⟩ | hh
    · exact absurd h0 h2
    · exact hh
   exact ⟨D2.pp.trans D1.pp, .inr ⟨h6, rfl, hof, true, hp⟩, fun hl => absurd (D2.live (D1.live hl).2).1 h2, ok2.more (by omega)⟩
 have h2' : r2.2 = 0 := by omega
 have hp2 : Phy r2.1 fr M F k [] false := by
  rcases D2.or with ⟨_, hp⟩ | ⟨h6, _⟩
  · exact hp
  · omega
 have D3 := hp2.prog ok2 (hdr seq) (hdr_len seq) hk rfl 0 (by rw [hF]; rfl) (by rw [D2.pp, D1.pp]; exact hpp)
 have ok3 := FlaM.ok_program ok2 ((fr + k : Nat) : Int) ((0 : Nat) : Int) (hdr seq)
 generalize hr3 : FlaM.progF r2.1 ((fr + k : Nat) : Int) ((0 : Nat) : Int) (hdr seq) = r3 at D3 ok3
 by_cases h3 : r3.2 ≠ 0
 · have e : headL (fr + k) seq s = ((r3.1, s.pp), r3.2) := by unfold headL; rw [hr1, if_neg h1, hr2, if_neg h2, hr3, if_pos h3]
   rw [e]
   obtain ⟨h6, hof, hp⟩ : r3.2 = 6 /\ r3.1.off = true /\ Phy r3.1 fr M F k [] false := by
    rcases D3.or with ⟨h0, _⟩ | hh
    · exact absurd h0 h3
    · exact hh
   exact ⟨D3.pp.trans (D2.pp.trans D1.pp), .inr ⟨h6, rfl, hof, false, hp⟩, fun hl => absurd (D3.live (D2.live (D1.live hl).2).2).1 h3, ok3⟩
 · have h3' : r3.2 = 0 := by omega
   have e : headL (fr + k) seq s = ((r3.1, 1), 0) := by unfold headL; rw [hr1, if_neg h1, hr2, if_neg h2, hr3, if_neg h3]
   rw [e]
   have hp3 : Phy r3.1 fr M F k [hdr seq] false := by
    rcases D3.or with ⟨_, hp⟩ | ⟨h6, _⟩
    · exact hp
    · omega
   exact ⟨D3.pp.trans (D2.pp.trans D1.pp), .inl ⟨rfl, rfl, hp3⟩, fun hl => ⟨rfl, (D3.live (D2.live (D1.live hl).2).2).2⟩, ok3⟩
theorem inv_open (h : Inv fr M σ k false hd Ns ex F X er) (ok : FlaM.Ok σ.fs N) (hk : k < M) :
 (openL fr σ).1.fs.pp = σ.fs.pp /\ (((openL fr σ).2 = 0 /\ Inv fr M (openL fr σ).1 (k + 1) true true Ns [] F [hdr (k + 1)] false) \/ ((openL fr σ).2 = 6 /\ (openL fr σ).1.fs.off = true /\ ∃ er', Inv fr M (openL fr σ).1 (k + 1) true false Ns [] F [] er')) /\ (Live σ.fs -> (openL fr σ).2 = 0 /\ Live (openL fr σ).1.fs) /\ FlaM.Ok (openL fr σ).1.fs (N + 3) := by
 obtain ⟨hX, he, hh, hx⟩ := h.shut rfl
 subst hX hh hx he
 have hF : F k = [] := (h.new k (Nat.le_refl _)).1
 have hNk : Ns k = [] := (h.new k (Nat.le_refl _)).2
 have H := head_phy (h.phy.move hk) ok hk hF (k + 1) (by have := h.pp; omega)
 have e : openL fr σ = (⟨(headL (fr + k) (k + 1) σ.fs).1.1, tabOf M (k + 1) true, (headL (fr + k) (k + 1) σ.fs).1.2⟩, (headL (fr + k) (k + 1) σ.fs).2) := by
  unfold openL
  rw [h.tb, tab_open hk, if_neg (by simp)]
 rw [e]
 generalize headL (fr + k) (k + 1) σ.fs = r at H
 obtain ⟨hpp, hor, hlive, hok⟩ := H
 have hold : ∀ (X' : List Bs) (hd' : Bool) (j : Nat), j < k -> onSeg F k X' j = full (k + 1) hd' [] Ns j := by
  intro X' hd' j hj
  have h1 := h.all j hj
  rw [onSeg_nil, full_ex] at h1
  unfold onSeg full
  rw [if_neg (by omega), if_neg (by omega), h1]
  simp
 refine ⟨hpp, ?_, hlive, hok⟩
 rcases hor with ⟨h0, h1, hp⟩ | ⟨h6, h1, hof, er', hp⟩
 · refine .inl ⟨h0, rfl, hk, hp, fun j hj => h.new j (by omega), ?_, fun _ => Nat.succ_pos _, fun _ => ?_, fun h => (by cases h), fun h => (by cases h), .inl rfl, fun h => (by cases h), h.good, by show 2 <= r.1.1.pp; rw [hpp]; exact h.pp⟩
   · intro j hj
     rw [Nat.add_sub_cancel]
     by_cases hjk : j = k
     · subst hjk
       rw [full_ex, hNk]
       unfold onSeg
       rw [if_pos rfl, hF]
       rfl
     · exact hold _ _ j (by omega)
   · show r.1.2 = _
     rw [h1, if_pos rfl, Nat.add_sub_cancel]
     unfold onSeg
     rw [if_pos rfl, hF]
     rfl
 · refine .inr ⟨h6, hof, er', rfl, hk, hp, fun j hj => h.new j (by omega), ?_, fun _ => Nat.succ_pos _, fun _ => ?_, fun h => (by cases h), fun _ => ⟨by rw [Nat.add_sub_cancel]; exact hNk, rfl, hof⟩, .inl rfl, fun _ => rfl, h.good, by show 2 <= r.1.1.pp; rw [hpp]; exact h.pp⟩
   · intro j hj
     rw [Nat.add_sub_cancel]
     by_cases hjk : j = k
     · subst hjk
       unfold onSeg full
       rw [if_pos rfl, hF, if_pos ⟨rfl, rfl⟩]
       rfl
     · exact hold _ _ j (by omega)
   · show r.1.2 = _
     rw [h1]
     exact hpp.symm
theorem progs_phy (g : Nat) (hg : g < M) : ∀ (ps : List Bs) (a : Nat) (s : FS) (X : List Bs) (N : Nat), Phy s fr M F g X false -> FlaM.Ok s N -> a = (F g).length + X.length -> a + ps.length <= s.pp -> (∀ p ∈ ps, p.length = 128) ->
 (progsL (fr + g) s a ps).1.1.pp = s.pp /\ (((progsL (fr + g) s a ps).2 = 0 /\ (ps = [] \/ s.off ≠ true) /\ (progsL (fr + g) s a ps).1.2 = a + ps.length /\ Phy (progsL (fr + g) s a ps).1.1 fr M F g (X ++ ps) false) \/ ((progsL (fr + g) s a ps).2 = 6 /\ (progsL (fr + g) s a ps).1.1.off = true /\ ∃ c, c < ps.length /\ (s.off = true -> c = 0) /\ (progsL (fr + g) s a ps).1.2 = a + c /\ Phy (progsL (fr + g) s a ps).1.1 fr M F g (X ++ ps.take c) false)) /\ (Live s -> (progsL (fr + g) s a ps).2 = 0 /\ Live (progsL (fr + g) s a ps).1.1) /\ FlaM.Ok (progsL (fr + g) s a ps).1.1 (N + ps.length)
 | [], a, s, X, N, h, ok, _, _, _ => by
  refine ⟨rfl, .inl ⟨rfl, .inl rfl, rfl, ?_⟩, fun hl => ⟨rfl, hl⟩, ok⟩
  rw [List.append_nil]; exact h
 | b :: ps, a, s, X, N, h, ok, ha, hroom, hb => by
  simp only [List.length_cons] at hroom
  have D := h.prog ok b (hb b List.mem_cons_self) hg rfl a ha (by omega)
  have ok1 := FlaM.ok_program ok ((fr + g : Nat) : Int) (a : Int) b
  generalize hr : FlaM.progF s ((fr + g : Nat) : Int) (a : Int) b = r at D ok1
  by_cases h0 : r.2 = 0
  · have e : progsL (fr + g) s a (b :: ps) = progsL (fr + g) r.1 (a + 1) ps := by
     rw [progsL, hr, if_pos h0]
    have hp : Phy r.1 fr M F g (X ++ [b]) false := by
     rcases D.or with ⟨_, hp⟩ | ⟨h6, _⟩
     · exact hp
     · omega
    obtain ⟨q1, q2, q3, q4⟩ := progs_phy g hg ps (a + 1) r.1 (X ++ [b]) (N + 1) hp ok1 (by rw [List.length_append, List.length_singleton]; omega) (by rw [D.pp]; omega) (fun p hp => hb p (List.mem_cons_of_mem _ hp))
    rw [e]
    refine ⟨q1.trans D.pp, ?_, fun hl => q3 (D.live hl).2, q4.more (by simp only [List.length_cons]; omega)⟩
    rcases q2 with ⟨q5, _, q6, q7⟩ | ⟨q5, q6, c, q7, q8, q9, q10⟩
    · refine .inl ⟨q5, .inr (fun ho => by have := D.dead ho; omega), by rw [q6, List.length_cons]; omega, ?_⟩
      rw [List.append_assoc] at q7
      exact q7
    · refine .inr ⟨q5, q6, c + 1, by simp only [List.length_cons]; omega, fun ho => ?_, by rw [q9]; omega, ?_⟩
      · have := D.dead ho; omega
      · rw [List.append_assoc] at q10
        exact q10
  · have e : progsL (fr + g) s a (b :: ps) = ((r.1, a), r.2) := by
     rw [progsL, hr, if_neg h0]
    obtain ⟨h6, hof, hp⟩ : r.2 = 6 /\ r.1.off = true /\ Phy r.1 fr M F g X false := by
     rcases D.or with ⟨h00, _⟩ | hh
     · exact absurd h00 h0
     · exact hh
    rw [e]
    refine ⟨D.pp, .inr ⟨h6, hof, 0, by simp, fun _ => rfl, rfl, ?_⟩, fun hl => absurd (D.live hl).1 h0, ok1.more (by simp only [List.length_cons]; omega)⟩
    rw [List.take_zero, List.append_nil]; exact hp
end
end Go.LogM
end
section
namespace Go.LogM
open FlaM (FS)
def updN (Ns : Nat -> List RecM.Nte) (j : Nat) (l : List RecM.Nte) : Nat -> List RecM.Nte := fun i => if i = j then l else Ns i
def tot (Ns : Nat -> List RecM.Nte) : Nat -> Nat
 | 0 => 0
 | k + 1 => tot Ns k + (Ns k).length
def allN (Ns : Nat -> List RecM.Nte) : Nat -> List RecM.Nte
 | 0 => []
 | k + 1 => allN Ns k ++ Ns k
theorem allN_len (Ns : Nat -> List RecM.Nte) : ∀ k, (allN Ns k).length = tot Ns k
 | 0 => rfl
 | k + 1 => by unfold allN tot; rw [List.length_append, allN_len Ns k]
theorem tot_upd (Ns : Nat -> List RecM.Nte) (j : Nat) (l : List RecM.Nte) : ∀ k, k <= j -> tot (updN Ns j l) k = tot Ns k
 | 0, _ => rfl
 | k + 1, h => by
  unfold tot
  rw [tot_upd Ns j l k (by omega)]
  unfold updN
  rw [if_neg (by omega)]
theorem allN_upd (Ns : Nat -> List RecM.Nte) (j : Nat) (l : List RecM.Nte) : ∀ k, k <= j -> allN (updN Ns j l) k = allN Ns k
 | 0, _ => rfl
 | k + 1, h => by
  unfold allN
  rw [allN_upd Ns j l k (by omega)]
  unfold updN
  rw [if_neg (by omega)]
theorem allN_snoc (Ns : Nat -> List RecM.Nte) (j : Nat) (n : RecM.Nte) : allN (updN Ns j (Ns j ++ [n])) (j + 1) = allN Ns (j + 1) ++ [n] := by
 unfold allN
 rw [allN_upd _ _ _ _ (Nat.le_refl _), List.append_assoc]
 unfold updN
 rw [if_pos rfl]
def Sf (cnt k : Nat) (Ns : Nat -> List RecM.Nte) (F : Nat -> List Bs) : Prop :=
 ∃ m, m <= (Ns (k - 1)).length /\ cnt <= tot Ns (k - 1) + m /\ (0 < m -> ∃ F2, F (k - 1) = hdr (k - 1 + 1) :: ((Ns (k - 1)).take m).flatMap notePages ++ F2)
section
variable {fr M : Nat} {σ : LG} {k : Nat} {op hd : Bool} {Ns : Nat -> List RecM.Nte} {ex : List Bs} {F : Nat -> List Bs} {X : List Bs} {er : Bool} {N : Nat}
theorem Inv.zero (h : Inv fr M σ k op hd Ns ex F X er) (hk : k = 0) : ∀ j, Ns j = [] := fun j => (h.new j (by omega)).2
theorem tot_zero (h : ∀ j, Ns j = []) : ∀ k, tot Ns k = 0
 | 0 => rfl
 | k + 1 => by unfold tot; rw [tot_zero h k, h k]; rfl
theorem sf_all (h : Inv fr M σ k op true Ns [] F [] er) : Sf (tot Ns k) k Ns F := by
 refine ⟨(Ns (k - 1)).length, Nat.le_refl _, ?_, fun hm => ?_⟩
 · cases k with
   | zero => rw [tot_zero (h.zero rfl)]; exact Nat.zero_le _
   | succ k => rw [Nat.add_sub_cancel]; exact Nat.le_refl _
 · have hk : 0 < k := by
    rcases Nat.eq_zero_or_pos k with h0 | h0
    · rw [h.zero h0] at hm; simp at hm
    · exact h0
   have h1 := h.all (k - 1) (by omega)
   rw [onSeg_nil, full_ex] at h1
   exact ⟨[], by rw [h1, List.take_length, List.append_nil]⟩
theorem sf_more {cnt : Nat} {n : RecM.Nte} (h : Sf cnt k Ns F) : Sf cnt k (updN Ns (k - 1) (Ns (k - 1) ++ [n])) F := by
 obtain ⟨m, h1, h2, h3⟩ := h
 have e : updN Ns (k - 1) (Ns (k - 1) ++ [n]) (k - 1) = Ns (k - 1) ++ [n] := by unfold updN; rw [if_pos rfl]
 refine ⟨m, by rw [e, List.length_append]; omega, by rw [tot_upd _ _ _ _ (Nat.le_refl _)]; exact h2, fun hm => ?_⟩
 obtain ⟨F2, hF⟩ := h3 hm
 exact ⟨F2, by rw [e, List.take_append_of_le_length h1]; exact hF⟩
theorem sf_next {cnt : Nat} {F' : Nat -> List Bs} (h : Sf cnt k Ns F) (hz : k = 0 -> ∀ j, Ns j = []) : Sf cnt (k + 1) Ns F' := by
 obtain ⟨m, h1, h2, _⟩ := h
 refine ⟨0, Nat.zero_le _, ?_, fun h => absurd h (Nat.lt_irrefl _)⟩
 rw [Nat.add_sub_cancel]
 cases k with
 | zero =>
  have := hz rfl
  rw [this (0 - 1)] at h1
  rw [tot_zero this] at h2
  simp at h1
  omega
 | succ k =>
  rw [Nat.add_sub_cancel] at h1 h2
  unfold tot
  omega
theorem sf_front {cnt : Nat} {F' : Nat -> List Bs} (h : Sf cnt k Ns F) (hF : ∃ F2, F' (k - 1) = F (k - 1) ++ F2) : Sf cnt k Ns F' := by
 obtain ⟨m, h1, h2, h3⟩ := h
 refine ⟨m, h1, h2, fun hm => ?_⟩
 obtain ⟨F2, e⟩ := h3 hm
 obtain ⟨F3, e3⟩ := hF
 exact ⟨F2 ++ F3, by rw [e3, e]; simp⟩
theorem full_len (h : Inv fr M σ k op hd Ns ex F X er) (hk : 0 < k) : (onSeg F (k - 1) X (k - 1)).length = (F (k - 1)).length + X.length := by
 unfold onSeg
 rw [if_pos rfl, List.length_append]
structure Put1 (fr M : Nat) (σ σ' : LG) (k : Nat) (Ns : Nat -> List RecM.Nte) (n : RecM.Nte) (F : Nat -> List Bs) (res : Plc × Nat) : Prop where
 pp : σ'.fs.pp = σ.fs.pp
 or : (res.2 = 0 /\ res.1 = ⟨((k - 1 : Nat) : Int), ((1 + ((Ns (k - 1)).flatMap notePages).length : Nat) : Int), ((notePages n).length : Int)⟩ /\ 1 + ((Ns (k - 1)).flatMap notePages).length + (notePages n).length <= σ.fs.pp /\ ∃ X', Inv fr M σ' k true true (updN Ns (k - 1) (Ns (k - 1) ++ [n])) [] F X' false) \/
  (res = (zP, 6) /\ σ'.fs.off = true /\ ∃ hd' ex' X' er', Inv fr M σ' k true hd' Ns ex' F X' er')
 live : Live σ.fs -> res.2 = 0 /\ Live σ'.fs
theorem inv_put (h : Inv fr M σ k true hd Ns ex F X er) (ok : FlaM.Ok σ.fs N) {n : RecM.Nte} (hn : Good n) (hroom : σ.a + (notePages n).length <= σ.fs.pp) :
 Put1 fr M σ (putL fr σ (notePages n)).1 k Ns n F (putL fr σ (notePages n)).2 /\ FlaM.Ok (putL fr σ (notePages n)).1.fs (N + 3) := by
 have hk := h.opn rfl
 have hpos := notePages_pos n
 have hfew := notePages_few hn.fits hn.right
 have hc : (TabM.cur σ.tb).getD 0 = k - 1 := by rw [h.tb, tab_cur hk h.km]; rfl
 have ha := h.at_ rfl
 have hhd : hd = true := by
  cases hd
  · rw [if_neg (by simp)] at ha; omega
  · rfl
 subst hhd
 rw [if_pos rfl, full_len h hk] at ha
 have her : er = false := by
  cases er
  · rfl
  · exact absurd (h.er0 rfl) (by decide)
 subst her
 have H := progs_phy (k - 1) (by have := h.km; omega) (notePages n) σ.a σ.fs X N h.phy ok ha hroom (fun p hp => (notePages_page n p hp).2)
 have hall := h.all (k - 1) (by omega)
 have hkk : k - 1 + 1 = k := Nat.sub_add_cancel hk
 have hother : ∀ (X' : List Bs) (ex' : List Bs) (Ns' : Nat -> List RecM.Nte) (j : Nat), j < k -> j ≠ k - 1 -> Ns' j = Ns j -> onSeg F (k - 1) X' j = full k true ex' Ns' j := by
  intro X' ex' Ns' j hj hne hN
  have h1 := h.all j hj
  unfold onSeg full at h1 ⊢
  rw [if_neg hne] at h1 ⊢
  rw [if_neg (by simp)] at h1 ⊢
  rw [if_neg (by omega)] at h1 ⊢
  rw [h1, hN]
 unfold putL
 rw [hc]
 generalize progsL (fr + (k - 1)) σ.fs σ.a (notePages n) = r at H
 obtain ⟨q1, q2, q3, q4⟩ := H
 have hlen : (onSeg F (k - 1) X (k - 1)) = hdr (k - 1 + 1) :: ((Ns (k - 1)).flatMap notePages ++ ex) := by
  rw [hall]
  unfold full
  rw [if_neg (by simp), if_pos hkk]
 have hsame : ∀ {σ' : LG} {er' : Bool} (_ : σ'.tb = σ.tb) (_ : σ'.a = σ.a) (_ : σ'.fs.pp = σ.fs.pp) (_ : σ'.fs.off = true) (_ : Phy σ'.fs fr M F (k - 1) X false), Inv fr M σ' k true true Ns ex F X false := by
  intro σ' er' e1 e2 e3 e4 e5
  exact ⟨e1.trans h.tb, h.km, e5, h.new, h.all, h.opn, fun _ => by rw [e2, ha, if_pos rfl, full_len h hk], fun h => (by cases h), fun h => (by cases h), h.torn.imp id (fun ⟨_, hx⟩ => ⟨e4, hx⟩), fun h => (by cases h), h.good, by rw [e3]; exact h.pp⟩
 rcases q2 with ⟨q5, q6, q7, q8⟩ | ⟨q5, q6, c, q7, q8, q9, q10⟩
 · -- all of them
   have hoff : σ.fs.off ≠ true := by
    rcases q6 with h1 | h1
    · rw [h1] at hpos; exact absurd hpos (Nat.lt_irrefl 0)
    · exact h1
   have hex : ex = [] := by
    rcases h.torn with h1 | ⟨h1, _⟩
    · exact h1
    · exact absurd h1 hoff
   subst hex
   rw [List.append_nil] at hlen
   have hal : σ.a = 1 + ((Ns (k - 1)).flatMap notePages).length := by
    rw [ha, <- full_len h hk, hlen, List.length_cons, Nat.add_comm]
   rw [if_neg (by rw [q5]; simp)]
   refine ⟨⟨q1, .inl ⟨rfl, by rw [<- hal], by rw [<- hal]; exact hroom, X ++ notePages n, ?_⟩, fun hl => ⟨rfl, (q3 hl).2⟩⟩, q4.more (by omega)⟩
   refine ⟨h.tb, h.km, q8, ?_, ?_, h.opn, fun _ => ?_, fun h => (by cases h), fun h => (by cases h), .inl rfl, fun h => (by cases h), ?_, by show 2 <= r.1.1.pp; rw [q1]; exact h.pp⟩
   · intro j hj
     refine ⟨(h.new j hj).1, ?_⟩
     unfold updN
     rw [if_neg (by omega)]
     exact (h.new j hj).2
   · intro j hj
     by_cases hjk : j = k - 1
     · subst hjk
       rw [full_ex]
       unfold onSeg at hlen ⊢
       rw [if_pos rfl] at hlen ⊢
       rw [<- List.append_assoc, hlen]
       unfold updN
       rw [if_pos rfl, List.flatMap_append]
       simp
     · refine hother _ _ _ j hj hjk ?_
       unfold updN
       rw [if_neg hjk]
   · show r.1.2 = _
     rw [q7, if_pos rfl, ha]
     unfold onSeg
     rw [if_pos rfl, List.length_append, List.length_append, Nat.add_assoc]
   · intro j m hm
     unfold updN at hm
     split at hm
     · rename_i hj
       rcases List.mem_append.1 hm with hm | hm
       · exact h.good _ m hm
       · rw [List.mem_singleton.1 hm]; exact hn
     · exact h.good j m hm
 · -- the power is off
   rw [if_pos (by rw [q5]; decide), q5]
   refine ⟨⟨q1, .inr ⟨rfl, q6, ?_⟩, fun hl => absurd (q3 hl).1 (by rw [q5]; decide)⟩, q4.more (by omega)⟩
   by_cases ho : σ.fs.off = true
   · have hc0 := q8 ho
     subst hc0
     rw [List.take_zero, List.append_nil] at q10
     exact ⟨true, ex, X, false, hsame (er' := false) rfl q9 q1 q6 q10⟩
   · have hex : ex = [] := by
      rcases h.torn with h1 | ⟨h1, _⟩
      · exact h1
      · exact absurd h1 ho
     subst hex
     rw [List.append_nil] at hlen
     refine ⟨true, (notePages n).take c, X ++ (notePages n).take c, false, h.tb, h.km, q10, h.new, ?_, h.opn, fun _ => ?_, fun h => (by cases h), fun h => (by cases h), .inr ⟨q6, n, c, q7, rfl⟩, fun h => (by cases h), h.good, by show 2 <= r.1.1.pp; rw [q1]; exact h.pp⟩
     · intro j hj
       by_cases hjk : j = k - 1
       · subst hjk
         unfold onSeg at hlen ⊢
         unfold full
         rw [if_pos rfl] at hlen ⊢
         rw [if_neg (by simp), if_pos hkk, <- List.append_assoc, hlen]
         rfl
       · exact hother _ _ _ j hj hjk rfl
     · show r.1.2 = _
       rw [q9, if_pos rfl, ha]
       unfold onSeg
       rw [if_pos rfl, List.length_append, List.length_append, List.length_take, Nat.min_eq_left (by omega), Nat.add_assoc]
end
end Go.LogM
end
