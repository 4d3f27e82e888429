/- The mathematics of matches: how many bytes are the same, the longest of the nearest. -/
namespace Go.MatM

abbrev Bs := List UInt8
def by' (b : Bs) (i : Nat) : UInt8 := b.getD i 0

/-- counted on from n, at most f more -/
def cnt (b : Bs) (i k : Nat) : Nat → Nat → Nat
  | 0, n => n
  | f + 1, n => if i + n < b.length ∧ k + n < b.length ∧ by' b (i + n) = by' b (k + n) then cnt b i k f (n + 1) else n
/-- P5.1 for places that are there -/
def com (b : Bs) (i k : Nat) : Nat := cnt b i k 130 0

theorem cnt_le (b : Bs) (i k f n : Nat) : n ≤ cnt b i k f n ∧ cnt b i k f n ≤ n + f := by
  induction f generalizing n with
  | zero => simp [cnt]
  | succ f ih =>
    unfold cnt
    split
    · have := ih (n + 1); omega
    · omega
theorem cnt_same (b : Bs) (i k f n : Nat) : ∀ j, n ≤ j → j < cnt b i k f n → i + j < b.length ∧ k + j < b.length ∧ by' b (i + j) = by' b (k + j) := by
  induction f generalizing n with
  | zero => intro j h1 h2; simp [cnt] at h2; omega
  | succ f ih =>
    intro j h1 h2
    unfold cnt at h2
    split at h2
    · rename_i hc
      by_cases hj : j = n
      · subst hj; exact hc
      · exact ih (n + 1) j (by omega) h2
    · omega
theorem cnt_stop (b : Bs) (i k f n : Nat) (h : cnt b i k f n < n + f) : ¬ (i + cnt b i k f n < b.length ∧ k + cnt b i k f n < b.length ∧ by' b (i + cnt b i k f n) = by' b (k + cnt b i k f n)) := by
  induction f generalizing n with
  | zero => simp [cnt] at h
  | succ f ih =>
    unfold cnt at h ⊢
    split
    · rename_i hc
      rw [if_pos hc] at h
      exact ih (n + 1) (by omega)
    · rename_i hc; exact hc
theorem com_le (b : Bs) (i k : Nat) : com b i k ≤ 130 := by have := cnt_le b i k 130 0; unfold com; omega
theorem com_same (b : Bs) (i k j : Nat) (h : j < com b i k) : i + j < b.length ∧ k + j < b.length ∧ by' b (i + j) = by' b (k + j) := cnt_same b i k 130 0 j (Nat.zero_le _) h
theorem com_stop (b : Bs) (i k : Nat) (h : com b i k < 130) : ¬ (i + com b i k < b.length ∧ k + com b i k < b.length ∧ by' b (i + com b i k) = by' b (k + com b i k)) := cnt_stop b i k 130 0 (by unfold com at h; omega)
/-- at least so many are the same -/
theorem com_ge (b : Bs) (i k m : Nat) (hm : m ≤ 130) (h : ∀ j, j < m → i + j < b.length ∧ k + j < b.length ∧ by' b (i + j) = by' b (k + j)) : m ≤ com b i k := by
  rcases Nat.lt_or_ge (com b i k) m with hc | hc
  · exact absurd (h _ hc) (com_stop b i k (by omega))
  · exact hc

/-- the best of the distances 1 to d: the first of the longest -/
def best (b : Bs) (at' : Nat) : Nat → Nat × Nat
  | 0 => (0, 0)
  | d + 1 => if (best b at' d).2 < com b (at' - (d + 1)) at' then (d + 1, com b (at' - (d + 1)) at') else best b at' d
def dmax (b : Bs) (at' : Nat) : Nat := if at' < b.length then min 256 at' else 0
/-- P5.2 -/
def longest (b : Bs) (at' : Nat) : Nat × Nat := if (best b at' (dmax b at')).2 < 3 then (0, 0) else best b at' (dmax b at')

theorem best_max (b : Bs) (at' D d : Nat) (h1 : 1 ≤ d) (h2 : d ≤ D) : com b (at' - d) at' ≤ (best b at' D).2 := by
  induction D with
  | zero => omega
  | succ D ih =>
    unfold best
    by_cases hd : d = D + 1
    · subst hd; split
      · exact Nat.le_refl _
      · omega
    · have := ih (by omega)
      split
      · simp only; omega
      · exact this
theorem best_is (b : Bs) (at' D : Nat) (h : 0 < (best b at' D).2) : 1 ≤ (best b at' D).1 ∧ (best b at' D).1 ≤ D ∧ com b (at' - (best b at' D).1) at' = (best b at' D).2 ∧ ∀ d, 1 ≤ d → d < (best b at' D).1 → com b (at' - d) at' < (best b at' D).2 := by
  induction D with
  | zero => simp [best] at h
  | succ D ih =>
    unfold best at h ⊢
    split
    · rename_i hc
      refine ⟨by simp, by simp, rfl, fun d h1 h2 => ?_⟩
      have := best_max b at' D d h1 (by simp only at h2; omega)
      simp only; omega
    · rename_i hc
      rw [if_neg hc] at h
      obtain ⟨a1, a2, a3, a4⟩ := ih h
      exact ⟨a1, by omega, a3, a4⟩
/-- the first of the longest is one alone -/
theorem best_eq (b : Bs) (at' D d n : Nat) (h1 : 1 ≤ d) (h2 : d ≤ D) (hn : com b (at' - d) at' = n) (hpos : 0 < n) (hmax : ∀ e, 1 ≤ e → e ≤ D → com b (at' - e) at' ≤ n) (hfirst : ∀ e, 1 ≤ e → e < d → com b (at' - e) at' < n) : best b at' D = (d, n) := by
  have hge := best_max b at' D d h1 h2
  rw [hn] at hge
  obtain ⟨a1, a2, a3, a4⟩ := best_is b at' D (by omega)
  have hle := hmax _ a1 a2
  have e2 : (best b at' D).2 = n := by omega
  have e1 : (best b at' D).1 = d := by
    rcases Nat.lt_trichotomy (best b at' D).1 d with h | h | h
    · have := hfirst _ a1 h; omega
    · exact h
    · have := a4 d h1 h; omega
  exact Prod.ext e1 e2

/-- what a match is -/
theorem longest_runs (b : Bs) (at' d n : Nat) (h : longest b at' = (d, n)) (hd : ¬ (d = 0 ∧ n = 0)) :
    1 ≤ d ∧ d ≤ 256 ∧ d ≤ at' ∧ 3 ≤ n ∧ n ≤ 130 ∧ at' + n ≤ b.length ∧ (∀ k, k < n → by' b (at' + k) = by' b (at' + k - d)) ∧ (n < 130 → at' + n < b.length → by' b (at' + n) ≠ by' b (at' + n - d)) := by
  unfold longest at h
  split at h
  · simp only [Prod.mk.injEq] at h; omega
  · rename_i h3
    have hb := best_is b at' (dmax b at') (by omega)
    rw [h] at hb h3
    simp only at hb h3
    obtain ⟨a1, a2, a3, a4⟩ := hb
    have hD : dmax b at' ≤ 256 ∧ dmax b at' ≤ at' := by unfold dmax; split <;> omega
    have hl := com_le b (at' - d) at'
    refine ⟨a1, by omega, by omega, by omega, by omega, ?_, fun k hk => ?_, fun hn hlen => ?_⟩
    · have := com_same b (at' - d) at' (n - 1) (by omega); omega
    · have := com_same b (at' - d) at' k (by omega)
      rw [show at' + k - d = at' - d + k by omega]
      exact this.2.2.symm
    · have := com_stop b (at' - d) at' (by omega)
      rw [a3] at this
      intro he
      exact this ⟨by omega, hlen, by rw [he]; congr 1; omega⟩

/-- P5.5 -/
theorem longest_shrinks (b : Bs) (i d n : Nat) (hi : 1 ≤ i) (hl : i < b.length) (h : longest b (i - 1) = (d, n)) (h3 : 3 < n) (hn : n < 130) : n - 1 ≤ (longest b i).2 := by
  obtain ⟨a1, a2, a3, a4, a5, a6, a7, _⟩ := longest_runs b (i - 1) d n h (by omega)
  have hge : n - 1 ≤ com b (i - d) i := by
    refine com_ge b (i - d) i (n - 1) (by omega) (fun j hj => ?_)
    have := a7 (j + 1) (by omega)
    refine ⟨by omega, by omega, ?_⟩
    rw [show i + j = i - 1 + (j + 1) by omega, this]
    congr 1; omega
  have hD : d ≤ dmax b i := by unfold dmax; rw [if_pos hl]; omega
  have := best_max b i (dmax b i) d a1 hD
  unfold longest
  rw [if_neg (by omega)]
  omega

/-- more bytes behind -/
theorem by_append (b c : Bs) (i : Nat) (h : i < b.length) : by' (b ++ c) i = by' b i := by
  unfold by'; simp [List.getD, List.getElem?_append_left h]
theorem com_append_ge (b c : Bs) (i k : Nat) : com b i k ≤ com (b ++ c) i k := by
  refine com_ge _ _ _ _ (com_le _ _ _) (fun j hj => ?_)
  obtain ⟨h1, h2, h3⟩ := com_same b i k j hj
  rw [List.length_append, by_append _ _ _ h1, by_append _ _ _ h2]
  exact ⟨by omega, by omega, h3⟩
theorem com_append_eq (b c : Bs) (i k : Nat) (h1 : i < k) (h2 : k + com b i k < b.length) : com (b ++ c) i k = com b i k := by
  have hge := com_append_ge b c i k
  rcases Nat.lt_or_ge (com b i k) (com (b ++ c) i k) with h | h
  · exfalso
    obtain ⟨g1, g2, g3⟩ := com_same (b ++ c) i k _ h
    rw [by_append _ _ _ (by omega), by_append _ _ _ h2] at g3
    have hlt : com b i k < 130 := by have := com_le (b ++ c) i k; omega
    exact com_stop b i k hlt ⟨by omega, h2, g3⟩
  · omega
theorem best_congr (b b' : Bs) (at' D : Nat) (h : ∀ d, 1 ≤ d → d ≤ D → com b (at' - d) at' = com b' (at' - d) at') : best b at' D = best b' at' D := by
  induction D with
  | zero => rfl
  | succ D ih =>
    unfold best
    rw [ih (fun d h1 h2 => h d h1 (by omega)), h (D + 1) (by omega) (Nat.le_refl _)]
theorem longest_append (b c : Bs) (k : Nat) (hk : k < b.length) : (k + max (longest b k).2 2 < b.length → longest (b ++ c) k = longest b k) ∧ (longest b k).2 ≤ (longest (b ++ c) k).2 := by
  have hD : dmax (b ++ c) k = dmax b k := by unfold dmax; rw [if_pos hk, if_pos (by rw [List.length_append]; omega)]
  have hDk : dmax b k ≤ k := by unfold dmax; split <;> omega
  constructor
  · intro hlt
    have hsm : ∀ d, 1 ≤ d → d ≤ dmax b k → com (b ++ c) (k - d) k = com b (k - d) k := by
      intro d h1 h2
      refine com_append_eq b c (k - d) k (by omega) ?_
      have := best_max b k (dmax b k) d h1 h2
      unfold longest at hlt
      split at hlt
      · simp only at hlt; omega
      · omega
    unfold longest
    rw [hD, best_congr (b ++ c) b k _ hsm]
  · have hb : (best b k (dmax b k)).2 ≤ (best (b ++ c) k (dmax b k)).2 := by
      by_cases h0 : 0 < (best b k (dmax b k)).2
      · obtain ⟨a1, a2, a3, _⟩ := best_is b k _ h0
        have := best_max (b ++ c) k (dmax b k) _ a1 a2
        have := com_append_ge b c (k - (best b k (dmax b k)).1) k
        omega
      · omega
    unfold longest
    rw [hD]
    split
    · simp
    · rw [if_neg (by omega)]; exact hb

/-- one byte, again and again -/
theorem longest_one (c : UInt8) (n k : Nat) (hk : k < n) : longest (List.replicate n c) k = if k = 0 ∨ min 130 (n - k) < 3 then (0, 0) else (1, min 130 (n - k)) := by
  have hby : ∀ i, i < n → by' (List.replicate n c) i = c := fun i hi => by simp [by', List.getD, hi]
  have hcom : ∀ d, 1 ≤ d → d ≤ k → com (List.replicate n c) (k - d) k = min 130 (n - k) := by
    intro d h1 h2
    have hge : min 130 (n - k) ≤ com (List.replicate n c) (k - d) k := com_ge _ _ _ _ (by omega) (fun j hj => by
      rw [List.length_replicate]
      exact ⟨by omega, by omega, by rw [hby _ (by omega), hby _ (by omega)]⟩)
    have hle := com_le (List.replicate n c) (k - d) k
    rcases Nat.lt_or_ge (min 130 (n - k)) (com (List.replicate n c) (k - d) k) with h | h
    · have := com_same _ _ _ _ h
      rw [List.length_replicate] at this
      omega
    · omega
  have hD : dmax (List.replicate n c) k = min 256 k := by unfold dmax; rw [if_pos (by simpa using hk)]
  unfold longest
  rw [hD]
  by_cases h0 : k = 0
  · subst h0; simp [best]
  · have hb : best (List.replicate n c) k (min 256 k) = (1, min 130 (n - k)) := by
      refine best_eq _ _ _ _ _ (Nat.le_refl _) (by omega) (hcom 1 (by omega) (by omega)) (by omega) (fun e h1 h2 => ?_) (fun e h1 h2 => by omega)
      rw [hcom e h1 (by omega)]; exact Nat.le_refl _
    rw [hb]
    by_cases h3 : min 130 (n - k) < 3
    · rw [if_pos h3, if_pos (Or.inr h3)]
    · rw [if_neg h3, if_neg (by simp [h0]; omega)]
end Go.MatM
