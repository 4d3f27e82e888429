/- The mathematics of layer 10: notes as plain data, their bytes. -/
import Derived.WalkKit
namespace Go.RecM
abbrev Bs := List UInt8
/-- the many lowest bytes of n, the least significant one first (as Cod.le) -/
def le (n : Nat) : Nat → Bs
  | 0 => []
  | k + 1 => le n k ++ [UInt8.ofNat (n / 2 ^ (8 * k))]
theorem le_len (n k : Nat) : (le n k).length = k := by induction k <;> simp [le, *]
def num : Bs → Nat
  | [] => 0
  | c :: r => c.toNat + 256 * num r
theorem num_snoc (l : Bs) (c : UInt8) : num (l ++ [c]) = num l + 2 ^ (8 * l.length) * c.toNat := by
  induction l with
  | nil => simp [num]
  | cons d r ih =>
    have e : 2 ^ (8 * (r.length + 1)) = 256 * 2 ^ (8 * r.length) := by rw [Nat.mul_add, Nat.pow_add]; simp [Nat.mul_comm]
    rw [List.cons_append, num, ih, num, List.length_cons, e, Nat.mul_add, Nat.mul_assoc]
    omega
theorem num_le (n k : Nat) : num (le n k) = n % 2 ^ (8 * k) := by
  induction k with
  | zero => simp [le, num, Nat.mod_one]
  | succ k ih =>
    rw [le, num_snoc, ih, le_len]
    have e : 2 ^ (8 * (k + 1)) = 2 ^ (8 * k) * 256 := by rw [Nat.mul_add, Nat.pow_add]
    rw [e, Nat.mod_mul]
    simp
structure Nte where
  kind : UInt8
  addr : Nat
  seq : Nat
  sum : Bs
  kn : Nat
  data : Bs
def zsum : Bs := List.replicate 32 0
def zeroN : Nte := ⟨0, 0, 0, zsum, 0, []⟩
/-- the fields are of their widths -/
structure Fits (n : Nte) : Prop where
  addr : n.addr < 4294967296
  seq : n.seq < 18446744073709551616
  sum : n.sum.length = 32
  kn : n.kn < 4294967296
theorem zero_fits : Fits zeroN := ⟨by decide, by decide, rfl, by decide⟩
def right (n : Nte) : Bool :=
  decide (n.data.length ≤ 300) &&
    (if n.kind = 1 then true
     else if n.kind = 2 then decide (n.sum = zsum) && decide (n.kn = 0) && decide (n.data.length = 0)
     else if n.kind = 3 then decide (n.addr = 0) && (decide (n.sum = zsum) && decide (n.kn = 0)) && decide (n.data.length = 0)
     else if n.kind = 4 then decide (n.addr = 0) && decide (n.seq = 0) && decide (0 < n.data.length)
     else false)
def tail (n : Nte) : Bs := n.sum ++ (le n.kn 4 ++ (le n.data.length 2 ++ n.data))
def laid (n : Nte) : Bs :=
  n.kind :: (if n.kind = 1 then le n.addr 4 ++ (le n.seq 8 ++ tail n)
    else if n.kind = 2 then le n.addr 4 ++ le n.seq 8
    else if n.kind = 3 then le n.seq 8
    else tail n)
def lay (n : Nte) : Bs × Nat := if right n then (laid n, 0) else ([], 1)
theorem right_data {n : Nte} (h : right n = true) : n.data.length ≤ 300 := by
  unfold right at h
  simp only [Bool.and_eq_true, decide_eq_true_eq] at h
  exact h.1
theorem right_kind {n : Nte} (h : right n = true) : n.kind = 1 ∨ n.kind = 2 ∨ n.kind = 3 ∨ n.kind = 4 := by
  unfold right at h
  simp only [Bool.and_eq_true] at h
  have h2 := h.2
  split at h2
  · exact .inl ‹_›
  · split at h2
    · exact .inr (.inl ‹_›)
    · split at h2
      · exact .inr (.inr (.inl ‹_›))
      · split at h2
        · exact .inr (.inr (.inr ‹_›))
        · cases h2
theorem tail_len {n : Nte} (f : Fits n) : (tail n).length = 38 + n.data.length := by
  unfold tail
  simp only [List.length_append, le_len, f.sum]
  omega
/-- how long a note's bytes are -/
def sizeN (n : Nte) : Nat := if n.kind = 1 then 51 + n.data.length else if n.kind = 2 then 13 else if n.kind = 3 then 9 else 39 + n.data.length
theorem laid_len {n : Nte} (f : Fits n) : (laid n).length = sizeN n := by
  unfold laid sizeN
  split
  · simp only [List.length_cons, List.length_append, le_len, tail_len f]; omega
  · split
    · simp [le_len]
    · split
      · simp [le_len]
      · simp only [List.length_cons, tail_len f]; omega
theorem num_take (n k : Nat) (l : Bs) (h : n < 2 ^ (8 * k)) : num ((le n k ++ l).take k) = n := by
  rw [List.take_append_of_le_length (by rw [le_len]; omega), List.take_of_length_le (by rw [le_len]; omega), num_le, Nat.mod_eq_of_lt h]
theorem drop_le (n k : Nat) (l : Bs) : (le n k ++ l).drop k = l := by
  rw [List.drop_append_of_le_length (by rw [le_len]; omega), List.drop_of_length_le (by rw [le_len]; omega), List.nil_append]
/-- what stands in a tail: its number of bytes -/
theorem tail_size {n : Nte} (f : Fits n) (hd : n.data.length ≤ 300) (r : Bs) : num (((tail n ++ r).drop 36).take 2) = n.data.length := by
  have e : (tail n ++ r).drop 36 = le n.data.length 2 ++ (n.data ++ r) := by
    unfold tail
    rw [List.append_assoc, List.append_assoc, List.append_assoc, show (36 : Nat) = n.sum.length + 4 by rw [f.sum], ← List.drop_drop, List.drop_left', drop_le]
    rfl
  rw [e]
  exact num_take _ 2 _ (by omega)
/-- no note's bytes begin another's -/
theorem laid_free {m n : Nte} (fm : Fits m) (fn : Fits n) (hm : right m = true) (hn : right n = true) (r : Bs) (h : laid m ++ r = laid n) : r = [] := by
  have hl : (laid m).length + r.length = (laid n).length := by rw [← h, List.length_append]
  rw [laid_len fm, laid_len fn] at hl
  have hk : m.kind = n.kind := by
    unfold laid at h
    simp only [List.cons_append, List.cons.injEq] at h
    exact h.1
  suffices sizeN m = sizeN n by exact List.eq_nil_of_length_eq_zero (by omega)
  have h1 := right_data hm
  have h2 := right_data hn
  unfold sizeN
  rw [← hk]
  unfold laid at h
  rw [← hk] at h
  simp only [List.cons_append, List.cons.injEq, true_and] at h
  split
  · rename_i k1
    rw [if_pos k1, if_pos k1] at h
    have e : (tail m ++ r) = tail n ++ [] := by
      have := congrArg (fun l => (l.drop 4).drop 8) h
      simp only [List.append_assoc, drop_le] at this
      simpa using this
    have g := tail_size fm h1 r
    rw [e, tail_size fn h2 []] at g
    omega
  · split
    · rfl
    · split
      · rfl
      · rename_i k1 k2 k3
        rw [if_neg k1, if_neg k2, if_neg k3, if_neg k1, if_neg k2, if_neg k3] at h
        have g := tail_size fm h1 r
        rw [h, show tail n = tail n ++ [] by simp, tail_size fn h2 []] at g
        omega
theorem data_nil {l : Bs} (h : l.length = 0) : l = [] := List.eq_nil_of_length_eq_zero h
theorem tail_inj {m n : Nte} (fm : Fits m) (fn : Fits n) (h : tail m = tail n) : m.sum = n.sum ∧ m.kn = n.kn ∧ m.data = n.data := by
  unfold tail at h
  obtain ⟨h1, h2⟩ := List.append_inj h (by rw [fm.sum, fn.sum])
  obtain ⟨h3, h4⟩ := List.append_inj h2 (by rw [le_len, le_len])
  obtain ⟨h5, h6⟩ := List.append_inj h4 (by rw [le_len, le_len])
  refine ⟨h1, ?_, h6⟩
  have := congrArg num h3
  rw [num_le, num_le, Nat.mod_eq_of_lt (by have := fm.kn; omega), Nat.mod_eq_of_lt (by have := fn.kn; omega)] at this
  exact this
theorem le_inj {a b k : Nat} (ha : a < 2 ^ (8 * k)) (hb : b < 2 ^ (8 * k)) (h : le a k = le b k) : a = b := by
  have := congrArg num h
  rw [num_le, num_le, Nat.mod_eq_of_lt ha, Nat.mod_eq_of_lt hb] at this
  exact this
theorem right_2 {n : Nte} (h : right n = true) (k : n.kind = 2) : n.sum = zsum ∧ n.kn = 0 ∧ n.data = [] := by
  unfold right at h
  rw [if_neg (by rw [k]; decide), if_pos k] at h
  simp only [Bool.and_eq_true, decide_eq_true_eq] at h
  exact ⟨h.2.1.1, h.2.1.2, data_nil h.2.2⟩
theorem right_3 {n : Nte} (h : right n = true) (k : n.kind = 3) : n.addr = 0 ∧ n.sum = zsum ∧ n.kn = 0 ∧ n.data = [] := by
  unfold right at h
  rw [if_neg (by rw [k]; decide), if_neg (by rw [k]; decide), if_pos k] at h
  simp only [Bool.and_eq_true, decide_eq_true_eq] at h
  exact ⟨h.2.1.1, h.2.1.2.1, h.2.1.2.2, data_nil h.2.2⟩
theorem right_4 {n : Nte} (h : right n = true) (k : n.kind = 4) : n.addr = 0 ∧ n.seq = 0 ∧ 0 < n.data.length := by
  unfold right at h
  rw [if_neg (by rw [k]; decide), if_neg (by rw [k]; decide), if_neg (by rw [k]; decide), if_pos k] at h
  simp only [Bool.and_eq_true, decide_eq_true_eq] at h
  exact ⟨h.2.1.1, h.2.1.2, h.2.2⟩
/-- bytes are of one note only -/
theorem laid_inj {m n : Nte} (fm : Fits m) (fn : Fits n) (hm : right m = true) (hn : right n = true) (h : laid m = laid n) : m = n := by
  have hk : m.kind = n.kind := by
    unfold laid at h
    simp only [List.cons.injEq] at h
    exact h.1
  have hk' := right_kind hm
  unfold laid at h
  rw [← hk] at h
  simp only [List.cons.injEq, true_and] at h
  have a1 := fm.addr
  have a2 := fn.addr
  have s1 := fm.seq
  have s2 := fn.seq
  suffices m.addr = n.addr ∧ m.seq = n.seq ∧ m.sum = n.sum ∧ m.kn = n.kn ∧ m.data = n.data by
    obtain ⟨e1, e2, e3, e4, e5⟩ := this
    cases m
    cases n
    simp_all
  rcases hk' with k | k | k | k
  · rw [if_pos k, if_pos k] at h
    obtain ⟨h1, h2⟩ := List.append_inj h (by rw [le_len, le_len])
    obtain ⟨h3, h4⟩ := List.append_inj h2 (by rw [le_len, le_len])
    obtain ⟨t1, t2, t3⟩ := tail_inj fm fn h4
    exact ⟨le_inj (by omega) (by omega) h1, le_inj (by omega) (by omega) h3, t1, t2, t3⟩
  · rw [if_neg (by rw [k]; decide), if_pos k, if_neg (by rw [k]; decide), if_pos k] at h
    obtain ⟨h1, h2⟩ := List.append_inj h (by rw [le_len, le_len])
    obtain ⟨x1, x2, x3⟩ := right_2 hm k
    obtain ⟨y1, y2, y3⟩ := right_2 hn (hk ▸ k)
    exact ⟨le_inj (by omega) (by omega) h1, le_inj (by omega) (by omega) h2, x1.trans y1.symm, x2.trans y2.symm, x3.trans y3.symm⟩
  · rw [if_neg (by rw [k]; decide), if_neg (by rw [k]; decide), if_pos k, if_neg (by rw [k]; decide), if_neg (by rw [k]; decide), if_pos k] at h
    obtain ⟨x0, x1, x2, x3⟩ := right_3 hm k
    obtain ⟨y0, y1, y2, y3⟩ := right_3 hn (hk ▸ k)
    exact ⟨x0.trans y0.symm, le_inj (by omega) (by omega) h, x1.trans y1.symm, x2.trans y2.symm, x3.trans y3.symm⟩
  · rw [if_neg (by rw [k]; decide), if_neg (by rw [k]; decide), if_neg (by rw [k]; decide), if_neg (by rw [k]; decide), if_neg (by rw [k]; decide), if_neg (by rw [k]; decide)] at h
    obtain ⟨x0, x1, _⟩ := right_4 hm k
    obtain ⟨y0, y1, _⟩ := right_4 hn (hk ▸ k)
    obtain ⟨t1, t2, t3⟩ := tail_inj fm fn h
    exact ⟨x0.trans y0.symm, x1.trans y1.symm, t1, t2, t3⟩
/-- bytes that are a note's -/
def IsNote (b : Bs) : Prop := ∃ n, Fits n ∧ right n = true ∧ laid n = b
open Classical in
noncomputable def take (b : Bs) : Nte × Nat := if h : IsNote b then (h.choose, 0) else (zeroN, 100)
theorem take_none {b : Bs} (h : ¬ IsNote b) : take b = (zeroN, 100) := by unfold take; rw [dif_neg h]
theorem take_laid {n : Nte} (f : Fits n) (h : right n = true) : take (laid n) = (n, 0) := by
  have hi : IsNote (laid n) := ⟨n, f, h, rfl⟩
  unfold take
  rw [dif_pos hi]
  obtain ⟨c1, c2, c3⟩ := hi.choose_spec
  rw [laid_inj c1 f c2 h c3]
/-- what is taken is laid so -/
theorem lay_take {b : Bs} (h : IsNote b) : lay (take b).1 = (b, 0) ∧ (take b).2 = 0 ∧ Fits (take b).1 := by
  obtain ⟨n, f, hr, rfl⟩ := h
  rw [take_laid f hr]
  refine ⟨?_, rfl, f⟩
  unfold lay
  rw [if_pos hr]
theorem not_begin {n : Nte} (f : Fits n) (h : right n = true) (c : Nat) (hc : c < (laid n).length) : ¬ IsNote ((laid n).take c) := by
  rintro ⟨m, fm, hm, e⟩
  have h1 : laid m ++ (laid n).drop c = laid n := by rw [e, List.take_append_drop]
  have h2 := laid_free fm f hm h _ h1
  have := congrArg List.length h2
  rw [List.length_drop] at this
  simp at this
  omega
theorem not_more {n : Nte} (f : Fits n) (h : right n = true) (r : Bs) (hr : r ≠ []) : ¬ IsNote (laid n ++ r) := by
  rintro ⟨m, fm, hm, e⟩
  exact hr (laid_free f fm h hm r e.symm)
theorem laid_ne {n : Nte} : laid n ≠ [] := by unfold laid; simp
theorem not_nil : ¬ IsNote [] := by rintro ⟨m, _, _, e⟩; exact laid_ne e
def pagesN (n : Nte) : Nat := if right n then ((laid n).length + 124) / 125 else 0
end Go.RecM
