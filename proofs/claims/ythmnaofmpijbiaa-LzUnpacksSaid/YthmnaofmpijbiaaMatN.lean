/- The mathematics of heads: the longest match out of the places alone that have the same first three bytes. -/
import Derived.Test.YthmnaofmpijbiaaMatM
namespace Go.MatM

/-- the first three bytes from a place on -/
def hd (b : Bs) (k : Nat) : List UInt8 := [by' b k, by' b (k + 1), by' b (k + 2)]
theorem hd_len (b : Bs) (k : Nat) : (hd b k).length = 3 := rfl
theorem com_self (b : Bs) (at' k : Nat) : com b k at' ≤ com b at' at' := by
  refine com_ge b at' at' _ (com_le b k at') fun j hj => ?_
  have := com_same b k at' j hj
  exact ⟨this.2.1, this.2.1, rfl⟩
theorem com_self_eq (b : Bs) (at' : Nat) (h : at' < b.length) : com b at' at' = min (b.length - at') 130 := by
  have h1 := com_ge b at' at' (min (b.length - at') 130) (by omega) (fun j hj => ⟨by omega, by omega, rfl⟩)
  have h2 := com_le b at' at'
  rcases Nat.eq_zero_or_pos (com b at' at') with h0 | h0
  · omega
  · have := com_same b at' at' (com b at' at' - 1) (by omega); omega
theorem com_hd (b : Bs) (k at' : Nat) (hk : k < at') (hl : at' + 3 ≤ b.length) : 3 ≤ com b k at' ↔ hd b k = hd b at' := by
  constructor
  · intro h
    have h0 := com_same b k at' 0 (by omega)
    have h1 := com_same b k at' 1 (by omega)
    have h2 := com_same b k at' 2 (by omega)
    unfold hd
    simp only [Nat.add_zero] at h0
    rw [h0.2.2, h1.2.2, h2.2.2]
  · intro h
    unfold hd at h
    simp only [List.cons.injEq, and_true] at h
    obtain ⟨e0, e1, e2⟩ := h
    refine com_ge b k at' 3 (by omega) fun j hj => ⟨by omega, by omega, ?_⟩
    match j, hj with
    | 0, _ => exact e0
    | 1, _ => exact e1
    | 2, _ => exact e2

/-- one start more -/
def pstep (b : Bs) (at' : Nat) (s : Nat × Nat) (k : Nat) : Nat × Nat := if s.2 < com b k at' then (at' - k, com b k at') else s
def pick' (b : Bs) (at' : Nat) (rs : List Nat) : Nat × Nat := rs.foldl (pstep b at') (0, 0)
theorem pick_snoc (b : Bs) (at' : Nat) (rs : List Nat) (k : Nat) : pick' b at' (rs ++ [k]) = pstep b at' (pick' b at' rs) k := by simp [pick']
theorem pstep_full (b : Bs) (at' : Nat) (s : Nat × Nat) (k : Nat) (h : s.2 = com b at' at') : pstep b at' s k = s := by
  unfold pstep
  rw [if_neg (by have := com_self b at' k; omega)]
theorem pick_full (b : Bs) (at' : Nat) (rs qs : List Nat) (h : (pick' b at' rs).2 = com b at' at') : pick' b at' (rs ++ qs) = pick' b at' rs := by
  induction qs generalizing rs with
  | nil => simp
  | cons q qs ih =>
    have e : rs ++ q :: qs = (rs ++ [q]) ++ qs := by simp
    have e2 : pick' b at' (rs ++ [q]) = pick' b at' rs := by rw [pick_snoc, pstep_full b at' _ q h]
    rw [e, ih _ (by rw [e2]; exact h), e2]
theorem pick_le (b : Bs) (at' : Nat) (rs : List Nat) : (∀ k ∈ rs, k < at') → (pick' b at' rs).1 ≤ at' ∧ (pick' b at' rs).2 ≤ 130 := by
  intro _
  have : ∀ (rs : List Nat) (s : Nat × Nat), s.1 ≤ at' → s.2 ≤ 130 → (rs.foldl (pstep b at') s).1 ≤ at' ∧ (rs.foldl (pstep b at') s).2 ≤ 130 := by
    intro rs
    induction rs with
    | nil => intro s h1 h2; exact ⟨h1, h2⟩
    | cons r rs ih =>
      intro s h1 h2
      simp only [List.foldl_cons]
      refine ih _ ?_ ?_
      · unfold pstep; split
        · simp only; omega
        · exact h1
      · unfold pstep; split
        · exact com_le b r at'
        · exact h2
  exact this rs (0, 0) (by simp) (by simp)

/-- the places from lo to hi - 1 that have this head -/
def occ (b : Bs) (h : List UInt8) (lo hi : Nat) : List Nat := (List.range' lo (hi - lo)).filter (fun k => hd b k = h)
theorem occ_empty (b : Bs) (h : List UInt8) (lo : Nat) : occ b h lo lo = [] := by simp [occ]
theorem occ_succ (b : Bs) (h : List UInt8) (lo hi : Nat) (hl : lo ≤ hi) : occ b h lo (hi + 1) = occ b h lo hi ++ (if hd b hi = h then [hi] else []) := by
  unfold occ
  rw [show hi + 1 - lo = (hi - lo) + 1 by omega, List.range'_concat, List.filter_append, show lo + 1 * (hi - lo) = hi by omega]
  congr 1
  by_cases e : hd b hi = h <;> simp [e]
theorem occ_mem (b : Bs) (h : List UInt8) (lo hi k : Nat) : k ∈ occ b h lo hi ↔ lo ≤ k ∧ k < hi ∧ hd b k = h := by
  unfold occ
  simp only [List.mem_filter, List.mem_range'_1, decide_eq_true_eq]
  exact ⟨fun ⟨⟨h1, h2⟩, h3⟩ => ⟨h1, by omega, h3⟩, fun ⟨h1, h2, h3⟩ => ⟨⟨h1, by omega⟩, h3⟩⟩
theorem occ_len (b : Bs) (h : List UInt8) (lo hi : Nat) : (occ b h lo hi).length ≤ hi - lo := by
  unfold occ
  exact Nat.le_trans (List.length_filter_le _ _) (by simp)
/-- the first of them, and those behind it -/
theorem occ_cons (b : Bs) (h : List UInt8) (lo hi : Nat) (z : Nat) (zs : List Nat) (e : occ b h lo hi = z :: zs) : zs = occ b h (z + 1) hi ∧ lo ≤ z ∧ z < hi := by
  have hz : z ∈ occ b h lo hi := by rw [e]; exact List.mem_cons_self ..
  obtain ⟨h1, h2, h3⟩ := (occ_mem b h lo hi z).1 hz
  refine ⟨?_, h1, h2⟩
  -- split the range at z
  have hsplit : List.range' lo (hi - lo) = List.range' lo (z - lo) ++ (z :: List.range' (z + 1) (hi - (z + 1))) := by
    have e1 : List.range' lo (hi - lo) = List.range' lo (z - lo) ++ List.range' z (hi - z) := by
      have := @List.range'_append_1 lo (z - lo) (hi - z)
      rw [show lo + (z - lo) = z by omega, show z - lo + (hi - z) = hi - lo by omega] at this
      exact this.symm
    rw [e1, show hi - z = (hi - (z + 1)) + 1 by omega, List.range'_succ]
  have hnone : (List.range' lo (z - lo)).filter (fun k => hd b k = h) = [] := by
    rw [List.filter_eq_nil_iff]
    intro k hk hkh
    rw [List.mem_range'_1] at hk
    have hk2 : k ∈ occ b h lo hi := (occ_mem b h lo hi k).2 ⟨hk.1, by omega, by simpa using hkh⟩
    -- the list is rising: its head is its least
    have hr : (occ b h lo hi).Pairwise (· < ·) := List.Pairwise.filter _ List.pairwise_lt_range'
    rw [e] at hr hk2
    have hle := (List.pairwise_cons.1 hr).1
    rcases List.mem_cons.1 hk2 with rfl | hk3
    · omega
    · have := hle k hk3; omega
  have e2 := e
  unfold occ at e2
  rw [hsplit, List.filter_append, hnone, List.nil_append, List.filter_cons_of_pos (by simpa using h3)] at e2
  unfold occ
  exact ((List.cons.inj e2).2).symm
/-- nothing is lost if what lies ahead has another head -/
theorem occ_from (b : Bs) (h : List UInt8) (lo lo' hi : Nat) (h1 : lo ≤ lo') (h2 : ∀ k, lo ≤ k → k < lo' → hd b k ≠ h) (h3 : lo' ≤ hi) : occ b h lo hi = occ b h lo' hi := by
  unfold occ
  have e1 : List.range' lo (hi - lo) = List.range' lo (lo' - lo) ++ List.range' lo' (hi - lo') := by
    have := @List.range'_append_1 lo (lo' - lo) (hi - lo')
    rw [show lo + (lo' - lo) = lo' by omega, show lo' - lo + (hi - lo') = hi - lo by omega] at this
    exact this.symm
  rw [e1, List.filter_append]
  have : (List.range' lo (lo' - lo)).filter (fun k => hd b k = h) = [] := by
    rw [List.filter_eq_nil_iff]
    intro k hk hkh
    rw [List.mem_range'_1] at hk
    exact h2 k hk.1 (by omega) (by simpa using hkh)
  rw [this, List.nil_append]
/-- the first of them is near, so all are -/
theorem occ_near (b : Bs) (h : List UInt8) (lo lo' hi z : Nat) (zs : List Nat) (e : occ b h lo hi = z :: zs) (h1 : lo ≤ lo') (h2 : lo' ≤ z) : occ b h lo hi = occ b h lo' hi := by
  obtain ⟨_, g1, g2⟩ := occ_cons b h lo hi z zs e
  refine occ_from b h lo lo' hi h1 (fun k hk1 hk2 hk3 => ?_) (by omega)
  have hm : k ∈ occ b h lo hi := (occ_mem b h lo hi k).2 ⟨hk1, by omega, hk3⟩
  have hr : (occ b h lo hi).Pairwise (· < ·) := List.Pairwise.filter _ List.pairwise_lt_range'
  rw [e] at hr hm
  rcases List.mem_cons.1 hm with rfl | hm
  · omega
  · have := (List.pairwise_cons.1 hr).1 k hm; omega
theorem occ_none (b : Bs) (h : List UInt8) (lo lo' hi : Nat) (e : occ b h lo hi = []) (h1 : lo ≤ lo') : occ b h lo' hi = [] := by
  refine List.eq_nil_iff_forall_not_mem.2 fun k hk => ?_
  obtain ⟨g1, g2, g3⟩ := (occ_mem b h lo' hi k).1 hk
  have : k ∈ occ b h lo hi := (occ_mem b h lo hi k).2 ⟨by omega, g2, g3⟩
  rw [e] at this
  cases this

/-- the near places that have the same head -/
def near (b : Bs) (at' : Nat) : List Nat := occ b (hd b at') (at' - 256) at'
theorem near_lt (b : Bs) (at' k : Nat) (h : k ∈ near b at') : k < at' := ((occ_mem _ _ _ _ _).1 h).2.1
theorem near_len (b : Bs) (at' : Nat) : (near b at').length ≤ 256 := by
  have := occ_len b (hd b at') (at' - 256) at'
  unfold near
  omega

def nearD (b : Bs) (at' D : Nat) : List Nat := ((List.range D).map (fun d => at' - (d + 1))).filter (fun k => hd b k = hd b at')
theorem nearD_succ (b : Bs) (at' D : Nat) : nearD b at' (D + 1) = nearD b at' D ++ (if hd b (at' - (D + 1)) = hd b at' then [at' - (D + 1)] else []) := by
  unfold nearD
  rw [List.range_succ, List.map_append, List.filter_append]
  congr 1
  by_cases e : hd b (at' - (D + 1)) = hd b at' <;> simp [e]
theorem best_succ (b : Bs) (at' D : Nat) : best b at' (D + 1) = if (best b at' D).2 < com b (at' - (D + 1)) at' then (D + 1, com b (at' - (D + 1)) at') else best b at' D := rfl
theorem pick_best (b : Bs) (at' D : Nat) (hl : at' + 3 ≤ b.length) (hD : D ≤ at') : pick' b at' (nearD b at' D) = if (best b at' D).2 < 3 then (0, 0) else best b at' D := by
  induction D with
  | zero => simp [nearD, pick', best]
  | succ D ih =>
    have ih := ih (by omega)
    have hc := com_hd b (at' - (D + 1)) at' (by omega) hl
    rw [nearD_succ]
    by_cases e : hd b (at' - (D + 1)) = hd b at'
    · have h3 := hc.2 e
      rw [if_pos e, pick_snoc, ih]
      rw [best_succ]
      by_cases hb : (best b at' D).2 < 3
      · rw [if_pos hb]
        have hlt : (best b at' D).2 < com b (at' - (D + 1)) at' := by omega
        rw [if_pos hlt, if_neg (show ¬ (D + 1, com b (at' - (D + 1)) at').2 < 3 by simp only; omega)]
        unfold pstep
        rw [if_pos (show ((0, 0) : Nat × Nat).2 < com b (at' - (D + 1)) at' by simp only; omega), show at' - (at' - (D + 1)) = D + 1 by omega]
      · rw [if_neg hb]
        unfold pstep
        by_cases hlt : (best b at' D).2 < com b (at' - (D + 1)) at'
        · rw [if_pos hlt, if_pos hlt, if_neg (show ¬ (D + 1, com b (at' - (D + 1)) at').2 < 3 by simp only; omega), show at' - (at' - (D + 1)) = D + 1 by omega]
        · rw [if_neg hlt, if_neg hlt, if_neg hb]
    · have h3 : ¬ 3 ≤ com b (at' - (D + 1)) at' := fun h => e (hc.1 h)
      rw [if_neg e, List.append_nil, ih]
      rw [best_succ]
      by_cases hlt : (best b at' D).2 < com b (at' - (D + 1)) at'
      · rw [if_pos hlt, if_pos (by omega), if_pos (show (D + 1, com b (at' - (D + 1)) at').2 < 3 by simp only; omega)]
      · rw [if_neg hlt]
theorem near_rev (b : Bs) (at' : Nat) : (near b at').reverse = nearD b at' (min 256 at') := by
  unfold near occ nearD
  have e : (List.range' (at' - 256) (at' - (at' - 256))).reverse = (List.range (min 256 at')).map (fun d => at' - (d + 1)) := by
    rw [List.reverse_range', show at' - (at' - 256) = min 256 at' by omega]
    refine List.map_congr_left fun d hd => ?_
    rw [List.mem_range] at hd
    omega
  rw [← List.filter_reverse, e]
/-- THE LONGEST MATCH, OUT OF THE NEAR PLACES WITH THE SAME HEAD -/
theorem pick_near (b : Bs) (at' : Nat) (hl : at' + 3 ≤ b.length) : pick' b at' (near b at').reverse = longest b at' := by
  rw [near_rev, pick_best b at' _ hl (by omega)]
  have e : dmax b at' = min 256 at' := by unfold dmax; rw [if_pos (show at' < b.length by omega)]
  unfold longest
  rw [e]
theorem best_short (b : Bs) (at' D : Nat) (hl : b.length < at' + 3) : (best b at' D).2 < 3 := by
  rcases Nat.eq_zero_or_pos (best b at' D).2 with h | h
  · omega
  · obtain ⟨a1, a2, a3, _⟩ := best_is b at' D h
    rcases Nat.lt_or_ge (best b at' D).2 3 with h3 | h3
    · exact h3
    · have := com_same b (at' - (best b at' D).1) at' 2 (by omega); omega
theorem longest_short (b : Bs) (at' : Nat) (hl : b.length < at' + 3) : longest b at' = (0, 0) := by
  unfold longest
  rw [if_pos (best_short b at' _ hl)]
end Go.MatM
