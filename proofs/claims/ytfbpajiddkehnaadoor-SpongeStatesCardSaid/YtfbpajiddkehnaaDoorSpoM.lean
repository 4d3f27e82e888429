/- The mathematics of layer 4: bytes taken in one by one, padded, and the fingerprint. -/
import Derived.Test.YtfbpajiddkehnaaDoorKecM
namespace Go.SpoM
open Go.KecM

/-- a byte xored into the state at place i of 136 -/
def xorAt (s : St) (i : Nat) (c : UInt8) : St := s.set (i / 8) (s.getD (i / 8) 0 ^^^ (BitVec.ofNat 64 c.toNat <<< (8 * (i % 8))))
theorem xorAt_len (s : St) (i : Nat) (c : UInt8) : (xorAt s i c).length = s.length := by simp [xorAt]
/-- one byte taken in: the state, and how many bytes since it was permuted -/
def feed1 (q : St × Nat) (c : UInt8) : St × Nat := if q.2 = 135 then (perm 24 (xorAt q.1 135 c), 0) else (xorAt q.1 q.2 c, q.2 + 1)
def feed (q : St × Nat) (b : List UInt8) : St × Nat := b.foldl feed1 q
def zeroSt : St := List.replicate 25 0
/-- the state behind the padding -/
def fin (q : St × Nat) : St := perm 24 (xorAt (xorAt q.1 q.2 6) 135 128)
def byteOf (s : St) (i : Nat) : UInt8 := UInt8.ofNat ((s.getD (i / 8) 0).toNat / 2 ^ (8 * (i % 8)))
def squeeze (s : St) : List UInt8 := (List.range 32).map (byteOf s)
/-- THE FINGERPRINT -/
def sha (b : List UInt8) : List UInt8 := squeeze (fin (feed (zeroSt, 0) b))
theorem squeeze_len (s : St) : (squeeze s).length = 32 := by simp [squeeze]
theorem sha_len (b : List UInt8) : (sha b).length = 32 := squeeze_len _

theorem feed_append (q : St × Nat) (a b : List UInt8) : feed q (a ++ b) = feed (feed q a) b := List.foldl_append
theorem feed1_len (q : St × Nat) (c : UInt8) (h : q.1.length = 25) : (feed1 q c).1.length = 25 := by
  unfold feed1
  split
  · exact perm_len _ _ (by rw [xorAt_len]; exact h)
  · show (xorAt q.1 q.2 c).length = 25
    rw [xorAt_len]; exact h
theorem feed_len (b : List UInt8) : ∀ (q : St × Nat), q.1.length = 25 → (feed q b).1.length = 25 := by
  induction b with
  | nil => intro q h; exact h
  | cons c b ih => intro q h; exact ih _ (feed1_len q c h)
theorem feed_pos (b : List UInt8) : ∀ (q : St × Nat), q.2 < 136 → (feed q b).2 = (q.2 + b.length) % 136 ∧ (feed q b).2 < 136 := by
  induction b with
  | nil => intro q h; exact ⟨(Nat.mod_eq_of_lt h).symm, h⟩
  | cons c b ih =>
    intro q h
    have h1 : (feed1 q c).2 = (q.2 + 1) % 136 ∧ (feed1 q c).2 < 136 := by
      unfold feed1
      split
      · rename_i e; rw [e]; exact ⟨rfl, by show 0 < 136; omega⟩
      · show q.2 + 1 = (q.2 + 1) % 136 ∧ q.2 + 1 < 136
        exact ⟨(Nat.mod_eq_of_lt (by omega)).symm, by omega⟩
    have h2 := ih (feed1 q c) h1.2
    refine ⟨h2.1.trans ?_, h2.2⟩
    rw [h1.1, List.length_cons]
    omega
theorem feed_at (b : List UInt8) : (feed (zeroSt, 0) b).2 = b.length % 136 := by
  have := (feed_pos b (zeroSt, 0) (by decide)).1
  simpa using this

/-- the first i bytes of a block xored into the state -/
def xorN (s : St) (l : List UInt8) : Nat → St
  | 0 => s
  | i + 1 => xorAt (xorN s l i) i (l.getD i 0)
theorem xorN_succ (s : St) (l : List UInt8) (i : Nat) : xorN s l (i + 1) = xorAt (xorN s l i) i (l.getD i 0) := rfl
theorem xorN_len (s : St) (l : List UInt8) (n : Nat) : (xorN s l n).length = s.length := by
  induction n with
  | zero => rfl
  | succ n ih => rw [xorN, xorAt_len, ih]
theorem take_succ' (l : List UInt8) (i : Nat) (h : i < l.length) : l.take (i + 1) = l.take i ++ [l.getD i 0] := by
  rw [List.take_succ_eq_append_getElem h]
  simp [h]
theorem feed_part (s : St) (l : List UInt8) (i : Nat) (h : i ≤ l.length) (hi : i ≤ 135) : feed (s, 0) (l.take i) = (xorN s l i, i) := by
  induction i with
  | zero => simp [feed, xorN]
  | succ i ih =>
    rw [take_succ' l i (by omega), feed_append, ih (by omega) (by omega)]
    show feed1 (xorN s l i, i) (l.getD i 0) = _
    unfold feed1
    rw [if_neg (by show ¬ i = 135; omega)]
    rfl
theorem feed_block (s : St) (l : List UInt8) (h : 136 ≤ l.length) : feed (s, 0) (l.take 136) = (perm 24 (xorN s l 136), 0) := by
  rw [take_succ' l 135 (by omega), feed_append, feed_part s l 135 (by omega) (by omega)]
  show feed1 (xorN s l 135, 135) (l.getD 135 0) = _
  unfold feed1
  rw [if_pos rfl, xorN_succ s l 135]
/-- block by block -/
def blocks (s : St) (x : List UInt8) : Nat → St
  | 0 => s
  | k + 1 => perm 24 (xorN (blocks s x k) (x.drop (136 * k)) 136)
theorem blocks_len (s : St) (x : List UInt8) (hs : s.length = 25) (k : Nat) : (blocks s x k).length = 25 := by
  induction k with
  | zero => exact hs
  | succ k ih => exact perm_len _ _ (by rw [xorN_len]; exact ih)
theorem feed_blocks (s : St) (x : List UInt8) (k : Nat) (h : 136 * k ≤ x.length) : feed (s, 0) (x.take (136 * k)) = (blocks s x k, 0) := by
  induction k with
  | zero => rfl
  | succ k ih =>
    have e : x.take (136 * (k + 1)) = x.take (136 * k) ++ (x.drop (136 * k)).take 136 := by
      rw [show 136 * (k + 1) = 136 * k + 136 by omega, List.take_add]
    rw [e, feed_append, ih (by omega), feed_block _ _ (by rw [List.length_drop]; omega)]
    rfl

theorem xorAt_zero (s : St) (i : Nat) : xorAt s i 0 = s := by
  unfold xorAt
  have e : (BitVec.ofNat 64 (0 : UInt8).toNat <<< (8 * (i % 8))) = (0 : W) := by simp
  rw [e]
  apply List.ext_getElem
  · simp
  · intro j h1 h2
    by_cases hj : j = i / 8
    · subst hj; simp [h2]
    · rw [List.getElem_set_ne (Ne.symm hj)]
theorem xorAt_both (s : St) (hs : s.length = 25) : xorAt (xorAt s 135 6) 135 128 = xorAt s 135 134 := by
  unfold xorAt
  have h : (135 : Nat) / 8 < s.length := by rw [hs]; decide
  rw [List.set_set]
  congr 1
  have e : (s.set (135 / 8) (s.getD (135 / 8) 0 ^^^ BitVec.ofNat 64 (6 : UInt8).toNat <<< (8 * (135 % 8)))).getD (135 / 8) 0 = s.getD (135 / 8) 0 ^^^ BitVec.ofNat 64 (6 : UInt8).toNat <<< (8 * (135 % 8)) := by
    rw [List.getD_eq_getElem?_getD, List.getElem?_set_self h]; rfl
  rw [e, BitVec.xor_assoc]
  congr 1

/-- what is laid behind bytes whose last block has p -/
def padTail (p : Nat) : List UInt8 := if p = 135 then [134] else 6 :: (List.replicate (134 - p) 0 ++ [128])
theorem feed_zeros (n : Nat) : ∀ (q : St × Nat), q.2 + n ≤ 135 → feed q (List.replicate n 0) = (q.1, q.2 + n) := by
  induction n with
  | zero => intro q h; rfl
  | succ n ih =>
    intro q h
    have h1 : feed1 q 0 = (q.1, q.2 + 1) := by
      unfold feed1
      rw [if_neg (by omega), xorAt_zero]
    show feed (feed1 q 0) (List.replicate n 0) = _
    rw [h1, ih _ (by show q.2 + 1 + n ≤ 135; omega)]
    show (q.1, q.2 + 1 + n) = _
    rw [show q.2 + 1 + n = q.2 + (n + 1) by omega]
theorem feed_tail (q : St × Nat) (hs : q.1.length = 25) (hq : q.2 < 136) : feed q (padTail q.2) = (fin q, 0) := by
  obtain ⟨s, p⟩ := q
  show feed (s, p) (padTail p) = _
  have hp : p < 136 := hq
  have hs' : s.length = 25 := hs
  unfold padTail
  by_cases h : p = 135
  · rw [if_pos h]
    subst h
    show feed1 (s, 135) 134 = _
    unfold feed1 fin
    rw [if_pos rfl]
    show (perm 24 (xorAt s 135 134), 0) = (perm 24 (xorAt (xorAt s 135 6) 135 128), 0)
    rw [xorAt_both s hs']
  · rw [if_neg h]
    show feed (feed1 (s, p) 6) (List.replicate (134 - p) 0 ++ [128]) = _
    have h1 : feed1 (s, p) 6 = (xorAt s p 6, p + 1) := by
      unfold feed1
      rw [if_neg (by show ¬ p = 135; exact h)]
    rw [h1, feed_append, feed_zeros _ _ (by show p + 1 + (134 - p) ≤ 135; omega)]
    show feed1 (xorAt s p 6, p + 1 + (134 - p)) 128 = _
    rw [show p + 1 + (134 - p) = 135 by omega]
    unfold feed1 fin
    rw [if_pos rfl]

/-- the bytes padded -/
def padded (b : List UInt8) : List UInt8 := b ++ padTail (b.length % 136)
theorem padTail_len (p : Nat) (h : p < 136) : (padTail p).length = 136 - p := by
  unfold padTail
  by_cases e : p = 135
  · rw [if_pos e]; subst e; rfl
  · rw [if_neg e]; simp; omega
theorem padded_len (b : List UInt8) : (padded b).length = 136 * (b.length / 136 + 1) := by
  unfold padded
  rw [List.length_append, padTail_len _ (Nat.mod_lt _ (by decide))]
  omega
theorem feed_padded (b : List UInt8) : feed (zeroSt, 0) (padded b) = (fin (feed (zeroSt, 0) b), 0) := by
  unfold padded
  rw [feed_append, ← feed_at b]
  exact feed_tail _ (feed_len b _ rfl) (feed_pos b _ (by show 0 < 136; omega)).2
theorem blocks_padded (b : List UInt8) : blocks zeroSt (padded b) (b.length / 136 + 1) = fin (feed (zeroSt, 0) b) := by
  have h := feed_blocks zeroSt (padded b) (b.length / 136 + 1) (by rw [padded_len]; omega)
  rw [List.take_of_length_le (by rw [padded_len]; omega), feed_padded] at h
  exact (Prod.mk.inj h).1.symm
/-- the document's way: a 6, zeros, the last byte turned -/
theorem padded_eq (b : List UInt8) (z : Nat) (hz : (b.length + 1 + z) % 136 = 0) (hz2 : z < 136) (m : Nat) (hm : m = b.length + z) : (b ++ [6] ++ List.replicate z 0).set m ((b ++ [6] ++ List.replicate z 0).getD m 0 ^^^ 128) = padded b := by
  unfold padded padTail
  by_cases h : z = 0
  · subst h
    have e1 : b.length % 136 = 135 := by omega
    rw [if_pos e1]
    subst hm
    simp
    rfl
  · have e1 : ¬ b.length % 136 = 135 := by omega
    rw [if_neg e1]
    have e2 : 134 - b.length % 136 = z - 1 := by omega
    rw [e2]
    obtain ⟨y, rfl⟩ : ∃ y, z = y + 1 := ⟨z - 1, by omega⟩
    rw [Nat.add_sub_cancel]
    have e3 : b ++ [6] ++ List.replicate (y + 1) 0 = (b ++ 6 :: List.replicate y 0) ++ [0] := by
      rw [List.replicate_succ']; simp
    have e4 : m = (b ++ 6 :: List.replicate y 0).length := by rw [hm]; simp
    rw [e3, e4]
    simp
/-- the fingerprint's first i bytes -/
def sqTo (s : St) (i : Nat) : List UInt8 := (List.range 32).map fun j => if j < i then byteOf s j else 0
theorem sqTo_len (s : St) (i : Nat) : (sqTo s i).length = 32 := by simp [sqTo]
theorem sqTo_zero (s : St) : sqTo s 0 = List.replicate 32 0 := by
  apply List.ext_getElem
  · simp [sqTo]
  · intro j h1 h2
    simp only [sqTo, List.getElem_map, List.getElem_replicate, Nat.not_lt_zero, if_false]
theorem sqTo_all (s : St) : sqTo s 32 = squeeze s := by
  apply List.ext_getElem
  · simp [sqTo, squeeze]
  · intro j h1 h2
    have hj : j < 32 := by simpa [sqTo] using h1
    simp [sqTo, squeeze, hj]
theorem sqTo_set (s : St) (i : Nat) : (sqTo s i).set i (byteOf s i) = sqTo s (i + 1) := by
  apply List.ext_getElem
  · simp [sqTo]
  · intro j h1 h2
    by_cases hj : j = i
    · subst hj; simp [sqTo]
    · rw [List.getElem_set_ne (Ne.symm hj)]
      simp only [sqTo, List.getElem_map, List.getElem_range]
      by_cases h : j < i
      · rw [if_pos h, if_pos (by omega)]
      · rw [if_neg h, if_neg (by omega)]
theorem shown_none : (sha []).take 4 = [167, 255, 198, 248] := by decide +kernel
theorem shown_abc : (sha [97, 98, 99]).take 4 = [58, 152, 93, 167] := by decide +kernel
end Go.SpoM
