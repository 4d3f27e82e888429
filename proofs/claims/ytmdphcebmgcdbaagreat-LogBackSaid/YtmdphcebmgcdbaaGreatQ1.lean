/- Merged: PagM RecM FlaM LogM LogF TabM LogT LogS LogU LogV LogX LogY Own Heap -/
import Derived.WalkKit
import Derived.Great.Walk
import Derived.Deep.RegionLaw
import Derived.Deep.Draws
set_option linter.unusedVariables false
section
namespace Go.PagM
abbrev Bs := List UInt8
structure Frm where
  kind : UInt8
  first : Bool
  last : Bool
  data : Bs
def zeroF : Frm := ⟨0, false, false, []⟩
def headN (f : Frm) : Nat := f.kind.toNat + (if f.first then 64 else 0) + (if f.last then 128 else 0)
def laid (f : Frm) : Bs := UInt8.ofNat (headN f) :: UInt8.ofNat f.data.length :: (f.data ++ (List.replicate (125 - f.data.length) 0 ++ [90]))
def layE (f : Frm) : Nat := if 63 < f.kind.toNat then 1 else if 125 < f.data.length then 4 else 0
def lay (f : Frm) : Bs × Nat := if layE f = 0 then (laid f, 0) else ([], layE f)
theorem laid_len (f : Frm) (h : f.data.length ≤ 125) : (laid f).length = 128 := by
  unfold laid; simp; omega
def guess (b : Bs) : Frm := ⟨UInt8.ofNat ((b.getD 0 0).toNat % 64), decide ((b.getD 0 0).toNat / 64 % 2 = 1), decide ((b.getD 0 0).toNat / 128 = 1), (b.drop 2).take (b.getD 1 0).toNat⟩
def isPage (b : Bs) : Bool := decide (b.length = 128) && decide ((b.getD 1 0).toNat ≤ 125) && decide (laid (guess b) = b)
def take (b : Bs) : Frm × Nat := if isPage b then (guess b, 0) else (zeroF, 90)
theorem ofNat_toNat (n : Nat) (h : n < 256) : (UInt8.ofNat n).toNat = n := by simp; omega
theorem headN_lt {f : Frm} (h : f.kind.toNat ≤ 63) : headN f < 256 := by unfold headN; split <;> split <;> omega
theorem laid_0 (f : Frm) : (laid f).getD 0 0 = UInt8.ofNat (headN f) := rfl
theorem laid_1 (f : Frm) : (laid f).getD 1 0 = UInt8.ofNat f.data.length := rfl
theorem guess_laid {f : Frm} (h1 : f.kind.toNat ≤ 63) (h2 : f.data.length ≤ 125) : guess (laid f) = f := by
  have e0 : (UInt8.ofNat (headN f)).toNat = headN f := ofNat_toNat _ (headN_lt h1)
  have e1 : (UInt8.ofNat f.data.length).toNat = f.data.length := ofNat_toNat _ (by omega)
  obtain ⟨k, a, z, d⟩ := f
  unfold guess
  rw [laid_0, laid_1, e0, e1]
  simp only at h1 h2
  have hk : headN ⟨k, a, z, d⟩ % 64 = k.toNat ∧ decide (headN ⟨k, a, z, d⟩ / 64 % 2 = 1) = a ∧ decide (headN ⟨k, a, z, d⟩ / 128 = 1) = z := by
    unfold headN
    cases a <;> cases z <;> simp <;> omega
  obtain ⟨q1, q2, q3⟩ := hk
  rw [q1, q2, q3]
  congr 1
  · simp
  · unfold laid
    simp
theorem isPage_laid {f : Frm} (h1 : f.kind.toNat ≤ 63) (h2 : f.data.length ≤ 125) : isPage (laid f) = true := by
  unfold isPage
  rw [guess_laid h1 h2, laid_len f h2, laid_1, ofNat_toNat _ (by omega)]
  simp [h2]
theorem take_laid {f : Frm} (h1 : f.kind.toNat ≤ 63) (h2 : f.data.length ≤ 125) : take (laid f) = (f, 0) := by
  unfold take; rw [if_pos (isPage_laid h1 h2), guess_laid h1 h2]
theorem isPage_props {b : Bs} (h : isPage b = true) : b.length = 128 ∧ (b.getD 1 0).toNat ≤ 125 ∧ laid (guess b) = b := by
  unfold isPage at h
  simp only [Bool.and_eq_true, decide_eq_true_eq] at h
  exact ⟨h.1.1, h.1.2, h.2⟩
theorem guess_small (b : Bs) (h : b.length = 128) (h1 : (b.getD 1 0).toNat ≤ 125) : (guess b).kind.toNat ≤ 63 ∧ (guess b).data.length = (b.getD 1 0).toNat := by
  unfold guess
  refine ⟨?_, ?_⟩
  · simp only; rw [ofNat_toNat _ (by omega)]; omega
  · simp only [List.length_take, List.length_drop, h]; omega
theorem last_laid (f : Frm) (h : f.data.length ≤ 125) : (laid f).getD 127 0 = 90 := by
  show (UInt8.ofNat (headN f) :: UInt8.ofNat f.data.length :: (f.data ++ (List.replicate (125 - f.data.length) 0 ++ [90]))).getD (125 + 1 + 1) 0 = 90
  rw [List.getD_cons_succ, List.getD_cons_succ, List.getD_eq_getElem?_getD, List.getElem?_append_right (by omega), List.getElem?_append_right (by simp)]
  simp
theorem isPage_last {b : Bs} (h : isPage b = true) : b.getD 127 0 = 90 := by
  obtain ⟨h1, h2, h3⟩ := isPage_props h
  obtain ⟨_, g2⟩ := guess_small b h1 h2
  rw [← h3]
  exact last_laid _ (by omega)
theorem torn {b : Bs} (k : Nat) (hk : k < 128) (hb : b.length = 128) : isPage (b.take k ++ (List.replicate 128 255).drop k) = false := by
  cases h : isPage (b.take k ++ (List.replicate 128 255).drop k) with
  | false => rfl
  | true =>
    have := isPage_last h
    rw [List.getD_eq_getElem?_getD, List.getElem?_append_right (by simp; omega)] at this
    simp only [List.length_take, hb, List.getElem?_drop, List.getElem?_replicate] at this
    rw [if_pos (by omega)] at this
    simp at this
def pagesF (kind : UInt8) : Nat → Bool → Bs → List Bs
  | 0, _, _ => []
  | n + 1, first, b => laid ⟨kind, first, decide (b.length ≤ 125), b.take 125⟩ :: (if b.length ≤ 125 then [] else pagesF kind n false (b.drop 125))
def pages (kind : UInt8) (b : Bs) : List Bs := pagesF kind (b.length / 125 + 1) true b
def splitE (kind : UInt8) (b : Bs) : Nat := if 63 < kind.toNat then 1 else if 8000 < b.length then 4 else 0
def split (kind : UInt8) (b : Bs) : List Bs × Nat := if splitE kind b = 0 then (pages kind b, 0) else ([], splitE kind b)
theorem pagesF_fuel (kind : UInt8) : ∀ (n m : Nat) (first : Bool) (b : Bs), b.length / 125 < n → b.length / 125 < m → pagesF kind n first b = pagesF kind m first b
  | 0, _, _, b, h, _ => by omega
  | _, 0, _, b, _, h => by omega
  | n + 1, m + 1, first, b, h1, h2 => by
    unfold pagesF
    congr 1
    split
    · rfl
    · rename_i hb
      exact pagesF_fuel kind n m false (b.drop 125) (by rw [List.length_drop]; omega) (by rw [List.length_drop]; omega)
def rest (kind : UInt8) (first : Bool) (b : Bs) : List Bs := pagesF kind (b.length / 125 + 1) first b
theorem rest_step (kind : UInt8) (first : Bool) (b : Bs) : rest kind first b = laid ⟨kind, first, decide (b.length ≤ 125), b.take 125⟩ :: (if b.length ≤ 125 then [] else rest kind false (b.drop 125)) := by
  unfold rest
  conv => lhs; unfold pagesF
  congr 1
  split
  · rfl
  · exact pagesF_fuel kind _ _ false _ (by rw [List.length_drop]; omega) (by omega)
def joinF : Nat → UInt8 → Bs → List Bs → (UInt8 × Bs × Nat) × Nat
  | _, _, _, [] => ((0, [], 0), 90)
  | i, k, all, p :: l => if 64 ≤ i then ((0, [], 0), 90)
    else if !isPage p || (guess p).first != decide (i = 0) || (decide (0 < i) && (guess p).kind != k) || (!(guess p).last && decide ((guess p).data.length ≠ 125)) then ((0, [], 0), 90)
    else if (guess p).last then (((guess p).kind, all ++ (guess p).data, i + 1), 0)
    else joinF (i + 1) (guess p).kind (all ++ (guess p).data) l
def join (l : List Bs) : (UInt8 × Bs × Nat) × Nat := joinF 0 0 [] l
theorem joinF_page (i : Nat) (k : UInt8) (all : Bs) (f : Frm) (l : List Bs) (h1 : f.kind.toNat ≤ 63) (h2 : f.data.length ≤ 125) (hi : i < 64) (hf : f.first = decide (i = 0)) (hk : 0 < i → f.kind = k) (hl : f.last = false → f.data.length = 125) :
    joinF i k all (laid f :: l) = if f.last then ((f.kind, all ++ f.data, i + 1), 0) else joinF (i + 1) f.kind (all ++ f.data) l := by
  rw [joinF, guess_laid h1 h2, isPage_laid h1 h2, if_neg (by omega), if_neg ?_]
  rw [hf]
  simp
  refine ⟨fun h0 => hk h0, fun h => ?_⟩
  exact hl h
theorem join_rest (kind : UInt8) (hk : kind.toNat ≤ 63) (behind : List Bs) : ∀ (n : Nat) (i : Nat) (all b : Bs), b.length ≤ 125 * n → b.length + 125 * i ≤ 8000 → i < 64 →
    joinF i kind all (rest kind (decide (i = 0)) b ++ behind) = ((kind, all ++ b, i + (rest kind (decide (i = 0)) b).length), 0) := by
  intro n
  induction n with
  | zero =>
    intro i all b hb _ hi
    have h0 : b = [] := List.eq_nil_of_length_eq_zero (by omega)
    subst h0
    rw [rest_step]
    simp only [List.length_nil, Nat.zero_le, decide_true, if_true, List.cons_append, List.nil_append]
    rw [joinF_page i kind all _ behind hk (by simp) hi rfl (fun _ => rfl) (by simp)]
    simp
  | succ n ih =>
    intro i all b hb hl hi
    rw [rest_step, List.cons_append, joinF_page i kind all _ _ hk (by simp; omega) hi rfl (fun _ => rfl) (by simp; omega)]
    by_cases h : b.length ≤ 125
    · simp [h, List.take_of_length_le h]
    · have hi1 : decide (i + 1 = 0) = false := by simp
      have := ih (i + 1) (all ++ b.take 125) (b.drop 125) (by rw [List.length_drop]; omega) (by rw [List.length_drop]; omega) (by omega)
      rw [hi1] at this
      simp only [h, decide_false, if_false, Bool.false_eq_true]
      rw [this, List.append_assoc, List.take_append_drop, List.length_cons, Nat.add_assoc, Nat.add_comm 1]
theorem join_split (kind : UInt8) (b : Bs) (hk : kind.toNat ≤ 63) (hb : b.length ≤ 8000) (behind : List Bs) : join (pages kind b ++ behind) = ((kind, b, (pages kind b).length), 0) := by
  have := join_rest kind hk behind (b.length / 125 + 1) 0 [] b (by omega) (by omega) (by omega)
  rw [show decide (0 = 0) = true from rfl] at this
  have e : joinF 0 kind [] (rest kind true b ++ behind) = join (pages kind b ++ behind) := by
    show _ = joinF 0 0 [] (rest kind true b ++ behind)
    rw [rest_step, List.cons_append]
    rw [joinF_page 0 kind [] _ _ hk (by simp; omega) (by omega) rfl (by omega) (by simp; omega), joinF_page 0 0 [] _ _ hk (by simp; omega) (by omega) rfl (by omega) (by simp; omega)]
  rw [← e, this]
  simp only [List.nil_append, Nat.zero_add]
  rfl
theorem join_cut (kind : UInt8) (hk : kind.toNat ≤ 63) : ∀ (c : Nat) (i : Nat) (all b : Bs), c < (rest kind (decide (i = 0)) b).length → joinF i kind all ((rest kind (decide (i = 0)) b).take c) = ((0, [], 0), 90) := by
  intro c
  induction c with
  | zero => intro i all b _; rfl
  | succ c ih =>
    intro i all b hc
    rw [rest_step] at hc ⊢
    by_cases h : b.length ≤ 125
    · rw [if_pos h] at hc; simp at hc
    · rw [if_neg h] at hc ⊢
      rw [List.take_succ_cons]
      by_cases hi : i < 64
      · rw [joinF_page i kind all _ _ hk (by simp; omega) hi rfl (fun _ => rfl) (by simp; omega)]
        simp only [h, decide_false, if_false, Bool.false_eq_true]
        have hi1 : decide (i + 1 = 0) = false := by simp
        have := ih (i + 1) (all ++ b.take 125) (b.drop 125) (by rw [hi1]; simpa using hc)
        rw [hi1] at this
        exact this
      · rw [joinF, if_pos (by omega)]
theorem join_begin (kind : UInt8) (b : Bs) (hk : kind.toNat ≤ 63) (c : Nat) (hc : c < (pages kind b).length) : join ((pages kind b).take c) = ((0, [], 0), 90) := by
  have := join_cut kind hk c 0 [] b hc
  rw [show decide (0 = 0) = true from rfl] at this
  cases c with
  | zero => rfl
  | succ c =>
    have e : joinF 0 kind [] ((rest kind true b).take (c + 1)) = join ((pages kind b).take (c + 1)) := by
      show _ = joinF 0 0 [] ((rest kind true b).take (c + 1))
      rw [rest_step, List.take_succ_cons]
      rw [joinF_page 0 kind [] _ _ hk (by simp; omega) (by omega) rfl (by omega) (by simp; omega), joinF_page 0 0 [] _ _ hk (by simp; omega) (by omega) rfl (by omega) (by simp; omega)]
    rw [← e, this]
theorem rest_len (kind : UInt8) : ∀ (n : Nat) (first : Bool) (b : Bs), b.length ≤ 125 * n → (rest kind first b).length = max 1 ((b.length + 124) / 125) := by
  intro n
  induction n with
  | zero =>
    intro first b hb
    rw [rest_step, if_pos (by omega)]
    simp
    omega
  | succ n ih =>
    intro first b hb
    rw [rest_step]
    by_cases h : b.length ≤ 125
    · rw [if_pos h]; simp; omega
    · rw [if_neg h, List.length_cons, ih false (b.drop 125) (by rw [List.length_drop]; omega), List.length_drop]
      omega
theorem pages_len (kind : UInt8) (b : Bs) : (pages kind b).length = max 1 ((b.length + 124) / 125) := rest_len kind (b.length / 125 + 1) true b (by omega)
theorem rest_at (kind : UInt8) : ∀ (j : Nat) (first : Bool) (b : Bs), j < (rest kind first b).length → (rest kind first b)[j]? = some (laid ⟨kind, first && decide (j = 0), decide (b.length ≤ 125 * (j + 1)), (b.drop (125 * j)).take 125⟩) := by
  intro j
  induction j with
  | zero => intro first b _; rw [rest_step]; simp
  | succ j ih =>
    intro first b hj
    rw [rest_step] at hj ⊢
    by_cases h : b.length ≤ 125
    · rw [if_pos h] at hj; simp at hj
    · rw [if_neg h] at hj ⊢
      rw [List.getElem?_cons_succ, ih false (b.drop 125) (by simpa using hj), List.length_drop, List.drop_drop]
      have e1 : (false && decide (j = 0)) = (first && decide (j + 1 = 0)) := by simp
      have e2 : decide (b.length - 125 ≤ 125 * (j + 1)) = decide (b.length ≤ 125 * (j + 1 + 1)) := by
        rcases Nat.lt_or_ge (125 * (j + 1 + 1)) b.length with h | h
        · rw [decide_eq_false (by omega), decide_eq_false (by omega)]
        · rw [decide_eq_true (by omega), decide_eq_true (by omega)]
      rw [e1, e2, show 125 + 125 * j = 125 * (j + 1) by omega]
theorem pages_at (kind : UInt8) (b : Bs) (j : Nat) (h : j < (pages kind b).length) : (pages kind b)[j]? = some (laid ⟨kind, decide (j = 0), decide (b.length ≤ 125 * (j + 1)), (b.drop (125 * j)).take 125⟩) := by
  have := rest_at kind j true b h
  rw [Bool.true_and] at this
  exact this
end Go.PagM
end
section
namespace Go.RecM
abbrev Bs := List UInt8
def le (n : Nat) : Nat → Bs
  | 0 => []
  | k + 1 => le n k ++ [UInt8.ofNat (n / 2 ^ (8 * k))]
theorem le_len (n k : Nat) : (le n k).length = k := by induction k <;> simp [le, *]
def num : Bs → Nat
  | [] => 0
  | c :: r => c.toNat + 256 * num r
theorem num_snoc (l : Bs) (c : UInt8) : num (l ++ [c]) = num l + 2 ^ (8 * l.length) * c.toNat := by
  induction l with
  | nil => simp [num]
  | cons d r ih =>
    have e : 2 ^ (8 * (r.length + 1)) = 256 * 2 ^ (8 * r.length) := by rw [Nat.mul_add, Nat.pow_add]; simp [Nat.mul_comm]
    rw [List.cons_append, num, ih, num, List.length_cons, e, Nat.mul_add, Nat.mul_assoc]
    omega
theorem num_le (n k : Nat) : num (le n k) = n % 2 ^ (8 * k) := by
  induction k with
  | zero => simp [le, num, Nat.mod_one]
  | succ k ih =>
    rw [le, num_snoc, ih, le_len]
    have e : 2 ^ (8 * (k + 1)) = 2 ^ (8 * k) * 256 := by rw [Nat.mul_add, Nat.pow_add]
    rw [e, Nat.mod_mul]
    simp
structure Nte where
  kind : UInt8
  addr : Nat
  seq : Nat
  sum : Bs
  kn : Nat
  data : Bs
def zsum : Bs := List.replicate 32 0
def zeroN : Nte := ⟨0, 0, 0, zsum, 0, []⟩
structure Fits (n : Nte) : Prop where
  addr : n.addr < 4294967296
  seq : n.seq < 18446744073709551616
  sum : n.sum.length = 32
  kn : n.kn < 4294967296
def right (n : Nte) : Bool :=
  decide (n.data.length ≤ 300) &&
    (if n.kind = 1 then true
     else if n.kind = 2 then decide (n.sum = zsum) && decide (n.kn = 0) && decide (n.data.length = 0)
     else if n.kind = 3 then decide (n.addr = 0) && (decide (n.sum = zsum) && decide (n.kn = 0)) && decide (n.data.length = 0)
     else if n.kind = 4 then decide (n.addr = 0) && decide (n.seq = 0) && decide (0 < n.data.length)
     else false)
def tail (n : Nte) : Bs := n.sum ++ (le n.kn 4 ++ (le n.data.length 2 ++ n.data))
def laid (n : Nte) : Bs :=
  n.kind :: (if n.kind = 1 then le n.addr 4 ++ (le n.seq 8 ++ tail n)
    else if n.kind = 2 then le n.addr 4 ++ le n.seq 8
    else if n.kind = 3 then le n.seq 8
    else tail n)
def lay (n : Nte) : Bs × Nat := if right n then (laid n, 0) else ([], 1)
theorem right_data {n : Nte} (h : right n = true) : n.data.length ≤ 300 := by
  unfold right at h
  simp only [Bool.and_eq_true, decide_eq_true_eq] at h
  exact h.1
theorem right_kind {n : Nte} (h : right n = true) : n.kind = 1 ∨ n.kind = 2 ∨ n.kind = 3 ∨ n.kind = 4 := by
  unfold right at h
  simp only [Bool.and_eq_true] at h
  have h2 := h.2
  split at h2
  · exact .inl ‹_›
  · split at h2
    · exact .inr (.inl ‹_›)
    · split at h2
      · exact .inr (.inr (.inl ‹_›))
      · split at h2
        · exact .inr (.inr (.inr ‹_›))
        · cases h2
theorem tail_len {n : Nte} (f : Fits n) : (tail n).length = 38 + n.data.length := by
  unfold tail
  simp only [List.length_append, le_len, f.sum]
  omega
def sizeN (n : Nte) : Nat := if n.kind = 1 then 51 + n.data.length else if n.kind = 2 then 13 else if n.kind = 3 then 9 else 39 + n.data.length
theorem laid_len {n : Nte} (f : Fits n) : (laid n).length = sizeN n := by
  unfold laid sizeN
  split
  · simp only [List.length_cons, List.length_append, le_len, tail_len f]; omega
  · split
    · simp [le_len]
    · split
      · simp [le_len]
      · simp only [List.length_cons, tail_len f]; omega
theorem num_take (n k : Nat) (l : Bs) (h : n < 2 ^ (8 * k)) : num ((le n k ++ l).take k) = n := by
  rw [List.take_append_of_le_length (by rw [le_len]; omega), List.take_of_length_le (by rw [le_len]; omega), num_le, Nat.mod_eq_of_lt h]
theorem drop_le (n k : Nat) (l : Bs) : (le n k ++ l).drop k = l := by
  rw [List.drop_append_of_le_length (by rw [le_len]; omega), List.drop_of_length_le (by rw [le_len]; omega), List.nil_append]
theorem data_nil {l : Bs} (h : l.length = 0) : l = [] := List.eq_nil_of_length_eq_zero h
theorem tail_inj {m n : Nte} (fm : Fits m) (fn : Fits n) (h : tail m = tail n) : m.sum = n.sum ∧ m.kn = n.kn ∧ m.data = n.data := by
  unfold tail at h
  obtain ⟨h1, h2⟩ := List.append_inj h (by rw [fm.sum, fn.sum])
  obtain ⟨h3, h4⟩ := List.append_inj h2 (by rw [le_len, le_len])
  obtain ⟨h5, h6⟩ := List.append_inj h4 (by rw [le_len, le_len])
  refine ⟨h1, ?_, h6⟩
  have := congrArg num h3
  rw [num_le, num_le, Nat.mod_eq_of_lt (by have := fm.kn; omega), Nat.mod_eq_of_lt (by have := fn.kn; omega)] at this
  exact this
theorem le_inj {a b k : Nat} (ha : a < 2 ^ (8 * k)) (hb : b < 2 ^ (8 * k)) (h : le a k = le b k) : a = b := by
  have := congrArg num h
  rw [num_le, num_le, Nat.mod_eq_of_lt ha, Nat.mod_eq_of_lt hb] at this
  exact this
theorem right_2 {n : Nte} (h : right n = true) (k : n.kind = 2) : n.sum = zsum ∧ n.kn = 0 ∧ n.data = [] := by
  unfold right at h
  rw [if_neg (by rw [k]; decide), if_pos k] at h
  simp only [Bool.and_eq_true, decide_eq_true_eq] at h
  exact ⟨h.2.1.1, h.2.1.2, data_nil h.2.2⟩
theorem right_3 {n : Nte} (h : right n = true) (k : n.kind = 3) : n.addr = 0 ∧ n.sum = zsum ∧ n.kn = 0 ∧ n.data = [] := by
  unfold right at h
  rw [if_neg (by rw [k]; decide), if_neg (by rw [k]; decide), if_pos k] at h
  simp only [Bool.and_eq_true, decide_eq_true_eq] at h
  exact ⟨h.2.1.1, h.2.1.2.1, h.2.1.2.2, data_nil h.2.2⟩
theorem right_4 {n : Nte} (h : right n = true) (k : n.kind = 4) : n.addr = 0 ∧ n.seq = 0 ∧ 0 < n.data.length := by
  unfold right at h
  rw [if_neg (by rw [k]; decide), if_neg (by rw [k]; decide), if_neg (by rw [k]; decide), if_pos k] at h
  simp only [Bool.and_eq_true, decide_eq_true_eq] at h
  exact ⟨h.2.1.1, h.2.1.2, h.2.2⟩
theorem laid_inj {m n : Nte} (fm : Fits m) (fn : Fits n) (hm : right m = true) (hn : right n = true) (h : laid m = laid n) : m = n := by
  have hk : m.kind = n.kind := by
    unfold laid at h
    simp only [List.cons.injEq] at h
    exact h.1
  have hk' := right_kind hm
  unfold laid at h
  rw [← hk] at h
  simp only [List.cons.injEq, true_and] at h
  have a1 := fm.addr
  have a2 := fn.addr
  have s1 := fm.seq
  have s2 := fn.seq
  suffices m.addr = n.addr ∧ m.seq = n.seq ∧ m.sum = n.sum ∧ m.kn = n.kn ∧ m.data = n.data by
    obtain ⟨e1, e2, e3, e4, e5⟩ := this
    cases m
    cases n
    simp_all
  rcases hk' with k | k | k | k
  · rw [if_pos k, if_pos k] at h
    obtain ⟨h1, h2⟩ := List.append_inj h (by rw [le_len, le_len])
    obtain ⟨h3, h4⟩ := List.append_inj h2 (by rw [le_len, le_len])
    obtain ⟨t1, t2, t3⟩ := tail_inj fm fn h4
    exact ⟨le_inj (by omega) (by omega) h1, le_inj (by omega) (by omega) h3, t1, t2, t3⟩
  · rw [if_neg (by rw [k]; decide), if_pos k, if_neg (by rw [k]; decide), if_pos k] at h
    obtain ⟨h1, h2⟩ := List.append_inj h (by rw [le_len, le_len])
    obtain ⟨x1, x2, x3⟩ := right_2 hm k
    obtain ⟨y1, y2, y3⟩ := right_2 hn (hk ▸ k)
    exact ⟨le_inj (by omega) (by omega) h1, le_inj (by omega) (by omega) h2, x1.trans y1.symm, x2.trans y2.symm, x3.trans y3.symm⟩
  · rw [if_neg (by rw [k]; decide), if_neg (by rw [k]; decide), if_pos k, if_neg (by rw [k]; decide), if_neg (by rw [k]; decide), if_pos k] at h
    obtain ⟨x0, x1, x2, x3⟩ := right_3 hm k
    obtain ⟨y0, y1, y2, y3⟩ := right_3 hn (hk ▸ k)
    exact ⟨x0.trans y0.symm, le_inj (by omega) (by omega) h, x1.trans y1.symm, x2.trans y2.symm, x3.trans y3.symm⟩
  · rw [if_neg (by rw [k]; decide), if_neg (by rw [k]; decide), if_neg (by rw [k]; decide), if_neg (by rw [k]; decide), if_neg (by rw [k]; decide), if_neg (by rw [k]; decide)] at h
    obtain ⟨x0, x1, _⟩ := right_4 hm k
    obtain ⟨y0, y1, _⟩ := right_4 hn (hk ▸ k)
    obtain ⟨t1, t2, t3⟩ := tail_inj fm fn h
    exact ⟨x0.trans y0.symm, x1.trans y1.symm, t1, t2, t3⟩
def IsNote (b : Bs) : Prop := ∃ n, Fits n ∧ right n = true ∧ laid n = b
open Classical in
noncomputable def take (b : Bs) : Nte × Nat := if h : IsNote b then (h.choose, 0) else (zeroN, 100)
theorem take_none {b : Bs} (h : ¬ IsNote b) : take b = (zeroN, 100) := by unfold take; rw [dif_neg h]
theorem take_laid {n : Nte} (f : Fits n) (h : right n = true) : take (laid n) = (n, 0) := by
  have hi : IsNote (laid n) := ⟨n, f, h, rfl⟩
  unfold take
  rw [dif_pos hi]
  obtain ⟨c1, c2, c3⟩ := hi.choose_spec
  rw [laid_inj c1 f c2 h c3]
end Go.RecM
end
section
namespace Go.FlaM
abbrev Bs := List UInt8
structure Act where
  seg : Nat
  page : Int
  b : Bs
structure FS where
  safe : List (List Bs)
  L : List Act
  wear : List Nat
  off : Bool
  left : Int
  n : Nat
  pp : Nat
def blank : Bs := List.replicate 128 255
theorem blank_len : blank.length = 128 := by simp [blank]
def there (s : FS) (seg page : Int) : Bool := decide (0 ≤ seg ∧ seg < (s.safe.length : Int) ∧ 0 ≤ page ∧ page < (s.pp : Int))
def pageAt (safe : List (List Bs)) (i k : Nat) : Bs := (safe.getD i []).getD k []
def nowR : List Act → Nat → Nat → Option Bs
  | [], _, _ => none
  | a :: r, i, k => if a.seg = i ∧ a.page = (k : Int) then some a.b else if a.seg = i ∧ a.page < 0 then some blank else nowR r i k
def now (s : FS) (i k : Nat) : Bs := (nowR s.L.reverse i k).getD (pageAt s.safe i k)
def trip (s : FS) : FS := if s.left = 0 then { s with off := true, left := -1 } else s
def okd (s : FS) : FS := { s with n := s.n + 1, left := if 0 < s.left then s.left - 1 else s.left }
def progF (s : FS) (seg page : Int) (b : Bs) : FS × Nat :=
  if there s seg page = false ∨ b.length ≠ 128 then (s, 1)
  else if s.off then (s, 6)
  else if now s seg.toNat page.toNat ≠ blank then (s, 70)
  else if (trip s).off then (trip s, 6)
  else (okd { trip s with L := (trip s).L ++ [⟨seg.toNat, page, b⟩] }, 0)
def bump (l : List Nat) (i : Nat) : List Nat := l.set i (l.getD i 0 + 1)
def erase (s : FS) (seg : Int) : FS × Nat :=
  if there s seg 0 = false then (s, 1)
  else if (trip s).off then (trip s, 6)
  else (okd { trip s with L := (trip s).L ++ [⟨seg.toNat, -1, []⟩], wear := bump (trip s).wear seg.toNat }, 0)
def setPage (safe : List (List Bs)) (i k : Nat) (b : Bs) : List (List Bs) := safe.set i ((safe.getD i []).set k b)
def clearTo (safe : List (List Bs)) (i : Nat) : Nat → List (List Bs)
  | 0 => safe
  | m + 1 => setPage (clearTo safe i m) i m blank
def doOne (pp : Nat) (safe : List (List Bs)) (a : Act) (fate : Int) : List (List Bs) :=
  if 0 ≤ a.page then setPage safe a.seg a.page.toNat (a.b.take (min fate.toNat 128) ++ (pageAt safe a.seg a.page.toNat).drop (min fate.toNat 128))
  else clearTo safe a.seg (min fate.toNat pp)
def doAll (pp : Nat) (fates : List Int) : List (List Bs) → Nat → List Act → List (List Bs)
  | safe, _, [] => safe
  | safe, i, a :: r => doAll pp fates (doOne pp safe a (fates.getD i 0)) (i + 1) r
def some' (s : FS) (fates : List Int) : FS := { s with safe := doAll s.pp fates s.safe 0 s.L, L := [] }
def barrier (s : FS) : FS × Nat :=
  if (trip s).off then (trip s, 6) else (okd (some' (trip s) (List.replicate (trip s).L.length 128)), 0)
def read (s : FS) (seg page : Int) : Bs × Nat :=
  if there s seg page = false then ([], 1) else if s.off then ([], 6) else (now s seg.toNat page.toNat, 0)
def fresh (segs pages : Nat) : FS := ⟨List.replicate segs (List.replicate pages blank), [], List.replicate segs 0, false, -1, 0, pages⟩
def mayBe (segs pages : Int) : Bool := decide (0 ≤ segs ∧ segs ≤ 256 ∧ 1 ≤ pages ∧ pages ≤ 64)
structure Ok (s : FS) (N : Nat) : Prop where
  segs : s.safe.length ≤ 256
  pp : 1 ≤ s.pp ∧ s.pp ≤ 64
  rows : ∀ i, i < s.safe.length → (s.safe.getD i []).length = s.pp
  pages : ∀ i k, i < s.safe.length → k < s.pp → (pageAt s.safe i k).length = 128
  wear : s.wear.length = s.safe.length
  acts : ∀ a ∈ s.L, a.seg < s.safe.length ∧ ((0 ≤ a.page ∧ a.page < (s.pp : Int) ∧ a.b.length = 128) ∨ (a.page = -1 ∧ a.b = []))
  left : -1 ≤ s.left ∧ s.left ≤ 9223372036854775807
  n : s.n ≤ N
  log : s.L.length ≤ s.n
  worn : ∀ i, s.wear.getD i 0 ≤ s.n
theorem getD_set_self {α : Type} (l : List α) (i : Nat) (x d : α) (h : i < l.length) : (l.set i x).getD i d = x := by simp [List.getD, h]
theorem getD_set_ne {α : Type} (l : List α) (i j : Nat) (x d : α) (h : i ≠ j) : (l.set i x).getD j d = l.getD j d := by simp [List.getD, List.getElem?_set_ne h]
theorem setPage_len (safe : List (List Bs)) (i k : Nat) (b : Bs) : (setPage safe i k b).length = safe.length := by simp [setPage]
theorem setPage_row (safe : List (List Bs)) (i k j : Nat) (b : Bs) : ((setPage safe i k b).getD j []).length = (safe.getD j []).length := by
  unfold setPage
  by_cases h : i = j
  · subst h
    by_cases hl : i < safe.length
    · rw [getD_set_self _ _ _ _ hl, List.length_set]
    · rw [List.set_eq_of_length_le (by omega)]
  · rw [getD_set_ne _ _ _ _ _ h]
theorem setPage_at (safe : List (List Bs)) (i k i' k' : Nat) (b : Bs) (hi : i < safe.length) (hk : k < (safe.getD i []).length) : pageAt (setPage safe i k b) i' k' = if i = i' ∧ k = k' then b else pageAt safe i' k' := by
  unfold pageAt setPage
  by_cases h : i = i'
  · subst h
    rw [getD_set_self _ _ _ _ hi]
    by_cases h2 : k = k'
    · subst h2
      rw [if_pos ⟨rfl, rfl⟩, getD_set_self _ _ _ _ hk]
    · rw [if_neg (fun h => h2 h.2), getD_set_ne _ _ _ _ _ h2]
  · rw [if_neg (fun h' => h h'.1), getD_set_ne _ _ _ _ _ h]
theorem clearTo_len (safe : List (List Bs)) (i m : Nat) : (clearTo safe i m).length = safe.length := by
  induction m with
  | zero => rfl
  | succ m ih => rw [clearTo, setPage_len, ih]
theorem clearTo_row (safe : List (List Bs)) (i m j : Nat) : ((clearTo safe i m).getD j []).length = (safe.getD j []).length := by
  induction m with
  | zero => rfl
  | succ m ih => rw [clearTo, setPage_row, ih]
theorem clearTo_at (safe : List (List Bs)) (i m i' k' : Nat) (hi : i < safe.length) (hm : m ≤ (safe.getD i []).length) : pageAt (clearTo safe i m) i' k' = if i = i' ∧ k' < m then blank else pageAt safe i' k' := by
  induction m with
  | zero => simp [clearTo]
  | succ m ih =>
    rw [clearTo, setPage_at _ _ _ _ _ _ (by rw [clearTo_len]; exact hi) (by rw [clearTo_row]; omega), ih (by omega)]
    by_cases h : i = i'
    · subst h
      by_cases h2 : m = k'
      · subst h2; simp
      · by_cases h3 : k' < m
        · rw [if_neg (fun h => h2 h.2), if_pos ⟨rfl, h3⟩, if_pos ⟨rfl, by omega⟩]
        · rw [if_neg (fun h => h2 h.2), if_neg (fun h => h3 h.2), if_neg (fun h => by omega)]
    · simp [h]
theorem Ok.more {s : FS} {N M : Nat} (h : Ok s N) (hNM : N ≤ M) : Ok s M := ⟨h.segs, h.pp, h.rows, h.pages, h.wear, h.acts, h.left, Nat.le_trans h.n hNM, h.log, h.worn⟩
theorem ok_fresh (segs pages : Nat) (h1 : segs ≤ 256) (h2 : 1 ≤ pages ∧ pages ≤ 64) : Ok (fresh segs pages) 0 := by
  have hr : ∀ i, i < segs → (List.replicate segs (List.replicate pages blank)).getD i [] = List.replicate pages blank := fun i hi => by simp [List.getD, hi]
  refine ⟨by simpa [fresh] using h1, h2, ?_, ?_, by simp [fresh], by simp [fresh], ⟨by simp [fresh], by simp [fresh]⟩, Nat.le_refl _, by simp [fresh], fun i => ?_⟩
  · intro i hi
    have hi' : i < segs := by simpa [fresh] using hi
    show ((List.replicate segs (List.replicate pages blank)).getD i []).length = pages
    rw [hr i hi']; simp
  · intro i k hi hk
    have hi' : i < segs := by simpa [fresh] using hi
    have hk' : k < pages := hk
    show (((List.replicate segs (List.replicate pages blank)).getD i []).getD k []).length = 128
    rw [hr i hi']; simp [List.getD, hk', blank_len]
  · show (List.replicate segs 0).getD i 0 ≤ 0
    simp [List.getD, List.getElem?_replicate]; split <;> simp
theorem ok_trip {s : FS} {N : Nat} (h : Ok s N) : Ok (trip s) N := by
  unfold trip
  split
  · exact ⟨h.segs, h.pp, h.rows, h.pages, h.wear, h.acts, ⟨Int.le_refl _, by show (-1 : Int) ≤ _; omega⟩, h.n, h.log, h.worn⟩
  · exact h
theorem left_okd (s : FS) (h : -1 ≤ s.left ∧ s.left ≤ 9223372036854775807) : -1 ≤ (okd s).left ∧ (okd s).left ≤ 9223372036854775807 := by
  show -1 ≤ (if 0 < s.left then s.left - 1 else s.left) ∧ (if 0 < s.left then s.left - 1 else s.left) ≤ 9223372036854775807
  split <;> omega
theorem there_spec {s : FS} {seg page : Int} (h : there s seg page = true) : 0 ≤ seg ∧ seg < (s.safe.length : Int) ∧ 0 ≤ page ∧ page < (s.pp : Int) := by simpa [there] using h
theorem trip_safe (s : FS) : (trip s).safe = s.safe ∧ (trip s).L = s.L ∧ (trip s).wear = s.wear ∧ (trip s).n = s.n ∧ (trip s).pp = s.pp := by unfold trip; split <;> exact ⟨rfl, rfl, rfl, rfl, rfl⟩
theorem ok_program {s : FS} {N : Nat} (h : Ok s N) (seg page : Int) (b : Bs) : Ok (progF s seg page b).1 (N + 1) := by
  unfold progF
  split
  · exact h.more (by omega)
  rename_i ht
  split
  · exact h.more (by omega)
  split
  · exact h.more (by omega)
  split
  · exact (ok_trip h).more (by omega)
  have ht2 : there s seg page = true := by
    cases hx : there s seg page with
    | true => rfl
    | false => exact absurd (Or.inl hx) ht
  have hb : b.length = 128 := by
    rcases Nat.decEq b.length 128 with hx | hx
    · exact absurd (Or.inr hx) ht
    · exact hx
  obtain ⟨t1, t2, t3, t4⟩ := there_spec ht2
  have g := ok_trip h
  obtain ⟨e1, e2, e3, e4, e5⟩ := trip_safe s
  refine ⟨g.segs, g.pp, g.rows, g.pages, g.wear, ?_, left_okd _ g.left, ?_, ?_, fun i => Nat.le_trans (g.worn i) (Nat.le_succ _)⟩
  · intro a ha
    have ha' : a ∈ (trip s).L ++ [⟨seg.toNat, page, b⟩] := ha
    rcases List.mem_append.1 ha' with hx | hx
    · exact g.acts a hx
    · have hx2 : a = ⟨seg.toNat, page, b⟩ := by simpa using hx
      subst hx2
      refine ⟨?_, .inl ⟨t3, ?_, hb⟩⟩
      · show seg.toNat < (trip s).safe.length
        rw [e1]; omega
      · show page < ((trip s).pp : Int)
        rw [e5]; exact t4
  · exact Nat.succ_le_succ g.n
  · show ((trip s).L ++ [(⟨seg.toNat, page, b⟩ : Act)]).length ≤ (trip s).n + 1
    rw [List.length_append, List.length_singleton]
    exact Nat.succ_le_succ g.log
theorem bump_get (l : List Nat) (i j : Nat) (h : i < l.length) : (bump l i).getD j 0 = if i = j then l.getD i 0 + 1 else l.getD j 0 := by
  unfold bump
  by_cases hij : i = j
  · subst hij
    rw [if_pos rfl, getD_set_self _ _ _ _ h]
  · rw [if_neg hij, getD_set_ne _ _ _ _ _ hij]
theorem ok_erase {s : FS} {N : Nat} (h : Ok s N) (seg : Int) : Ok (erase s seg).1 (N + 1) := by
  unfold erase
  split
  · exact h.more (by omega)
  rename_i ht
  split
  · exact (ok_trip h).more (by omega)
  have ht2 : there s seg 0 = true := by
    cases hx : there s seg 0 with
    | true => rfl
    | false => exact absurd hx ht
  obtain ⟨t1, t2, _, _⟩ := there_spec ht2
  have g := ok_trip h
  obtain ⟨e1, e2, e3, e4, e5⟩ := trip_safe s
  have hsw : seg.toNat < (trip s).wear.length := by rw [g.wear, e1]; omega
  refine ⟨g.segs, g.pp, g.rows, g.pages, ?_, ?_, left_okd _ g.left, ?_, ?_, fun i => ?_⟩
  · show (bump (trip s).wear seg.toNat).length = (trip s).safe.length
    unfold bump
    rw [List.length_set]; exact g.wear
  · intro a ha
    have ha' : a ∈ (trip s).L ++ [⟨seg.toNat, -1, []⟩] := ha
    rcases List.mem_append.1 ha' with hx | hx
    · exact g.acts a hx
    · have hx2 : a = ⟨seg.toNat, -1, []⟩ := by simpa using hx
      subst hx2
      refine ⟨?_, .inr ⟨rfl, rfl⟩⟩
      show seg.toNat < (trip s).safe.length
      rw [e1]; omega
  · exact Nat.succ_le_succ g.n
  · show ((trip s).L ++ [(⟨seg.toNat, -1, []⟩ : Act)]).length ≤ (trip s).n + 1
    rw [List.length_append, List.length_singleton]
    exact Nat.succ_le_succ g.log
  · show (bump (trip s).wear seg.toNat).getD i 0 ≤ (trip s).n + 1
    rw [bump_get _ _ _ hsw]
    split
    · exact Nat.succ_le_succ (g.worn _)
    · exact Nat.le_trans (g.worn i) (Nat.le_succ _)
structure Shape (safe : List (List Bs)) (n pp : Nat) : Prop where
  len : safe.length = n
  rows : ∀ i, i < n → (safe.getD i []).length = pp
  pages : ∀ i k, i < n → k < pp → (pageAt safe i k).length = 128
theorem shape_set {safe : List (List Bs)} {n pp : Nat} (h : Shape safe n pp) (i k : Nat) (hi : i < n) (hk : k < pp) (b : Bs) (hb : b.length = 128) : Shape (setPage safe i k b) n pp := by
  refine ⟨by rw [setPage_len, h.len], fun j hj => by rw [setPage_row, h.rows j hj], fun j m hj hm => ?_⟩
  rw [setPage_at _ _ _ _ _ _ (by rw [h.len]; exact hi) (by rw [h.rows i hi]; exact hk)]
  split
  · exact hb
  · exact h.pages j m hj hm
theorem shape_clear {safe : List (List Bs)} {n pp : Nat} (h : Shape safe n pp) (i m : Nat) (hi : i < n) (hm : m ≤ pp) : Shape (clearTo safe i m) n pp := by
  induction m with
  | zero => exact h
  | succ m ih => exact shape_set (ih (by omega)) i m hi (by omega) blank blank_len
theorem shape_one {safe : List (List Bs)} {n pp : Nat} (h : Shape safe n pp) (a : Act) (ha : a.seg < n ∧ ((0 ≤ a.page ∧ a.page < (pp : Int) ∧ a.b.length = 128) ∨ (a.page = -1 ∧ a.b = []))) (fate : Int) : Shape (doOne pp safe a fate) n pp := by
  unfold doOne
  split
  · rcases ha.2 with ⟨h1, h2, h3⟩ | ⟨h1, _⟩
    · refine shape_set h _ _ ha.1 (by omega) _ ?_
      have := h.pages a.seg a.page.toNat ha.1 (by omega)
      rw [List.length_append, List.length_take, List.length_drop, this, h3]; omega
    · omega
  · exact shape_clear h _ _ ha.1 (by omega)
theorem shape_all {n pp : Nat} (fates : List Int) : ∀ (L : List Act) (safe : List (List Bs)) (i : Nat), Shape safe n pp → (∀ a ∈ L, a.seg < n ∧ ((0 ≤ a.page ∧ a.page < (pp : Int) ∧ a.b.length = 128) ∨ (a.page = -1 ∧ a.b = []))) → Shape (doAll pp fates safe i L) n pp
  | [], safe, i, h, _ => h
  | a :: L, safe, i, h, ha => shape_all fates L _ (i + 1) (shape_one h a (ha a (List.mem_cons_self ..)) _) (fun x hx => ha x (List.mem_cons_of_mem _ hx))
theorem Ok.shape {s : FS} {N : Nat} (h : Ok s N) : Shape s.safe s.safe.length s.pp := ⟨rfl, h.rows, h.pages⟩
theorem ok_some {s : FS} {N : Nat} (h : Ok s N) (fates : List Int) : Ok (some' s fates) N := by
  have g := shape_all fates s.L s.safe 0 h.shape h.acts
  refine ⟨?_, h.pp, ?_, ?_, ?_, by simp [some'], h.left, h.n, Nat.zero_le _, h.worn⟩
  · show (doAll s.pp fates s.safe 0 s.L).length ≤ 256
    rw [g.len]; exact h.segs
  · intro i hi
    exact g.rows i (by rw [← g.len]; exact hi)
  · intro i k hi hk
    exact g.pages i k (by rw [← g.len]; exact hi) hk
  · show s.wear.length = (doAll s.pp fates s.safe 0 s.L).length
    rw [g.len]; exact h.wear
theorem ok_barrier {s : FS} {N : Nat} (h : Ok s N) : Ok (barrier s).1 (N + 1) := by
  unfold barrier
  split
  · exact (ok_trip h).more (by omega)
  · have g := ok_some (ok_trip h) (List.replicate (trip s).L.length 128)
    exact ⟨g.segs, g.pp, g.rows, g.pages, g.wear, g.acts, left_okd _ g.left, Nat.succ_le_succ g.n, Nat.le_trans g.log (Nat.le_succ _), fun i => Nat.le_trans (g.worn i) (Nat.le_succ _)⟩
end Go.FlaM
end
section
namespace Go.LogM
abbrev Bs := List UInt8
theorem joinF_more (q : Bs) (hq : PagM.isPage q = false) (r : List Bs) : ∀ (l : List Bs) (i : Nat) (k : UInt8) (all : Bs), PagM.joinF i k all l = ((0, [], 0), 90) → PagM.joinF i k all (l ++ q :: r) = ((0, [], 0), 90)
  | [], i, k, all, _ => by
    rw [List.nil_append, PagM.joinF]
    split
    · rfl
    · rw [if_pos (by simp [hq])]
  | p :: l, i, k, all, h => by
    rw [List.cons_append]
    rw [PagM.joinF] at h ⊢
    split
    · rfl
    · rename_i h1
      rw [if_neg h1] at h
      split
      · rfl
      · rename_i h2
        rw [if_neg h2] at h
        split
        · rename_i h3
          rw [if_pos h3] at h
          simp at h
        · rename_i h3
          rw [if_neg h3] at h
          exact joinF_more q hq r l _ _ _ h
def hdr (s : Nat) : Bs := PagM.laid ⟨1, true, true, RecM.le s 8⟩
theorem hdr_len (s : Nat) : (hdr s).length = 128 := PagM.laid_len _ (by show (RecM.le s 8).length ≤ 125; rw [RecM.le_len]; decide)
def headSeq (p : Bs) : Nat :=
  if (PagM.take p).2 = 0 ∧ (PagM.take p).1.kind = 1 ∧ (PagM.take p).1.first = true ∧ (PagM.take p).1.last = true ∧ (PagM.take p).1.data.length = 8 then RecM.num (PagM.take p).1.data else 0
theorem headSeq_hdr (s : Nat) (h : s < 18446744073709551616) : headSeq (hdr s) = s := by
  have e : PagM.take (hdr s) = (⟨1, true, true, RecM.le s 8⟩, 0) := PagM.take_laid (by show (1 : UInt8).toNat ≤ 63; decide) (by show (RecM.le s 8).length ≤ 125; rw [RecM.le_len]; decide)
  unfold headSeq
  rw [e]
  rw [if_pos ⟨rfl, rfl, rfl, rfl, RecM.le_len s 8⟩, RecM.num_le]
  exact Nat.mod_eq_of_lt h
theorem blank_page : PagM.isPage FlaM.blank = false := by simp [PagM.isPage, FlaM.blank]
def notePages (n : RecM.Nte) : List Bs := PagM.pages 2 (RecM.laid n)
theorem notePages_pos (n : RecM.Nte) : 0 < (notePages n).length := by unfold notePages; rw [PagM.pages_len]; omega
theorem notePages_page (n : RecM.Nte) : ∀ p ∈ notePages n, PagM.isPage p = true ∧ p.length = 128 := by
  intro p hp
  obtain ⟨j, hj, rfl⟩ := List.getElem_of_mem hp
  have h := PagM.pages_at 2 (RecM.laid n) j hj
  have e : (notePages n)[j] = PagM.laid ⟨2, decide (j = 0), decide ((RecM.laid n).length ≤ 125 * (j + 1)), ((RecM.laid n).drop (125 * j)).take 125⟩ := (List.getElem?_eq_some_iff.1 h).2
  rw [e]
  exact ⟨PagM.isPage_laid (by show (2 : UInt8).toNat ≤ 63; decide) (by simp; omega), PagM.laid_len _ (by simp; omega)⟩
noncomputable def note1 (l : List Bs) : Option (RecM.Nte × Nat) :=
  if (PagM.join l).2 = 0 ∧ (PagM.join l).1.1 = 2 ∧ (RecM.take (PagM.join l).1.2.1).2 = 0 then some ((RecM.take (PagM.join l).1.2.1).1, (PagM.join l).1.2.2) else none
theorem note1_err {l : List Bs} (h : PagM.join l = ((0, [], 0), 90)) : note1 l = none := by unfold note1; rw [h]; simp
theorem laid_small {n : RecM.Nte} (f : RecM.Fits n) (h : RecM.right n = true) : (RecM.laid n).length ≤ 351 := by
  have := RecM.right_data h
  rw [RecM.laid_len f]
  unfold RecM.sizeN
  split
  · omega
  split
  · omega
  split <;> omega
theorem notePages_few {n : RecM.Nte} (f : RecM.Fits n) (h : RecM.right n = true) : (notePages n).length ≤ 3 := by
  have := laid_small f h
  unfold notePages; rw [PagM.pages_len]; omega
theorem note1_pages {n : RecM.Nte} (f : RecM.Fits n) (h : RecM.right n = true) (behind : List Bs) : note1 (notePages n ++ behind) = some (n, (notePages n).length) := by
  have e := PagM.join_split 2 (RecM.laid n) (by decide) (by have := laid_small f h; omega) behind
  unfold note1 notePages
  rw [e]
  simp only
  rw [RecM.take_laid f h, if_pos ⟨trivial, trivial, rfl⟩]
theorem note1_cut (n : RecM.Nte) (c : Nat) (hc : c < (notePages n).length) : note1 ((notePages n).take c) = none := note1_err (PagM.join_begin 2 _ (by decide) c hc)
theorem note1_torn (n : RecM.Nte) (c : Nat) (hc : c < (notePages n).length) (q : Bs) (hq : PagM.isPage q = false) (r : List Bs) : note1 ((notePages n).take c ++ q :: r) = none :=
  note1_err (joinF_more q hq r _ 0 0 [] (PagM.join_begin 2 _ (by decide) c hc))
def Like : List Bs → List Bs → Prop
  | [], [] => True
  | q :: Q, f :: F => (q = f ∨ PagM.isPage q = false) ∧ Like Q F
  | _, _ => False
theorem like_refl : ∀ F : List Bs, Like F F
  | [] => trivial
  | _ :: F => ⟨.inl rfl, like_refl F⟩
theorem like_split : ∀ (A : List Bs) {Q B : List Bs}, Like Q (A ++ B) → ∃ Q1 Q2, Q = Q1 ++ Q2 ∧ Like Q1 A ∧ Like Q2 B
  | [], Q, B, h => ⟨[], Q, rfl, trivial, h⟩
  | f :: A, [], B, h => h.elim
  | f :: A, q :: Q, B, h => by
    obtain ⟨h1, h2⟩ := h
    obtain ⟨Q1, Q2, rfl, h3, h4⟩ := like_split A h2
    exact ⟨q :: Q1, Q2, rfl, ⟨h1, h3⟩, h4⟩
theorem like_first : ∀ {A Q : List Bs}, Like Q A → Q = A ∨ ∃ c q r, Q = A.take c ++ q :: r ∧ c < A.length ∧ PagM.isPage q = false
  | [], [], _ => .inl rfl
  | [], _ :: _, h => h.elim
  | _ :: _, [], h => h.elim
  | f :: A, q :: Q, ⟨h1, h2⟩ => by
    rcases h1 with rfl | h1
    · rcases like_first h2 with rfl | ⟨c, x, r, rfl, hc, hx⟩
      · exact .inl rfl
      · exact .inr ⟨c + 1, x, r, rfl, by simpa using hc, hx⟩
    · exact .inr ⟨0, q, Q, rfl, by simp, h1⟩
def Tail (T : List Bs) : Prop := ∃ n c bl, T = (notePages n).take c ++ bl ∧ c < (notePages n).length ∧ ∀ p ∈ bl, PagM.isPage p = false
theorem like_bad : ∀ {R bl : List Bs}, Like R bl → (∀ p ∈ bl, PagM.isPage p = false) → R = [] ∨ ∃ q r, R = q :: r ∧ PagM.isPage q = false
  | [], [], _, _ => .inl rfl
  | [], _ :: _, h, _ => h.elim
  | _ :: _, [], h, _ => h.elim
  | q :: R, f :: bl, ⟨h1, _⟩, hb => by
    refine .inr ⟨q, R, rfl, ?_⟩
    rcases h1 with rfl | h1
    · exact hb _ List.mem_cons_self
    · exact h1
theorem note1_tail {R T : List Bs} (hT : Tail T) (h : Like R T) : note1 R = none := by
  obtain ⟨n, c, bl, rfl, hc, hbl⟩ := hT
  obtain ⟨R1, R2, rfl, h1, h2⟩ := like_split _ h
  rcases like_first h1 with rfl | ⟨c', q, r, rfl, hc', hq⟩
  · rcases like_bad h2 hbl with rfl | ⟨q, r, rfl, hq⟩
    · rw [List.append_nil]; exact note1_cut n c hc
    · exact note1_torn n c hc q hq r
  · rw [List.take_take, List.append_assoc]
    exact note1_torn n _ (by omega) q hq _
structure Plc where
  seg : Int
  page : Int
  pages : Int
structure Ent where
  plc : Plc
  note : RecM.Nte
noncomputable def scanF (seg : Int) : Nat → Nat → List Bs → List Ent
  | 0, _, _ => []
  | f + 1, a, l => match note1 l with
    | none => []
    | some (n, k) => ⟨⟨seg, a, k⟩, n⟩ :: scanF seg f (a + k) (l.drop k)
def ents (seg : Int) : Nat → List RecM.Nte → List Ent
  | _, [] => []
  | a, n :: l => ⟨⟨seg, a, (notePages n).length⟩, n⟩ :: ents seg (a + (notePages n).length) l
structure Good (n : RecM.Nte) : Prop where
  fits : RecM.Fits n
  right : RecM.right n = true
theorem scan_like (seg : Int) (T : List Bs) (hT : Tail T) : ∀ (ns : List RecM.Nte) (a f : Nat) (Q : List Bs), (∀ n ∈ ns, Good n) → Like Q (ns.flatMap notePages ++ T) → ns.length < f →
    ∃ m, m ≤ ns.length ∧ scanF seg f a Q = ents seg a (ns.take m) ∧ ∀ m' F2, m' ≤ ns.length → Q = (ns.take m').flatMap notePages ++ F2 → m' ≤ m
  | ns, a, 0, Q, _, _, hf => absurd hf (Nat.not_lt_zero _)
  | [], a, f + 1, Q, _, h, _ => by
    refine ⟨0, Nat.le_refl _, ?_, fun m' _ hm _ => hm⟩
    unfold scanF
    rw [note1_tail hT h]
    rfl
  | n :: ns, a, f + 1, Q, hg, h, hf => by
    rw [List.flatMap_cons, List.append_assoc] at h
    obtain ⟨Q1, Q2, rfl, h1, h2⟩ := like_split _ h
    have gn := hg n List.mem_cons_self
    rcases like_first h1 with rfl | ⟨c, q, r, rfl, hc, hq⟩
    · obtain ⟨m, hm, e, hmax⟩ := scan_like seg T hT ns (a + (notePages n).length) f Q2 (fun x hx => hg x (List.mem_cons_of_mem _ hx)) h2 (by simpa using hf)
      refine ⟨m + 1, by simpa using hm, ?_, ?_⟩
      · rw [scanF, note1_pages gn.fits gn.right]
        simp only
        rw [List.drop_left, e, List.take_succ_cons, ents]
      · intro m' F2 hm' hQ
        cases m' with
        | zero => exact Nat.zero_le _
        | succ m' =>
          rw [List.take_succ_cons, List.flatMap_cons, List.append_assoc] at hQ
          exact Nat.succ_le_succ (hmax m' F2 (by simpa using hm') (List.append_cancel_left hQ))
    · refine ⟨0, Nat.zero_le _, ?_, ?_⟩
      · rw [scanF, List.append_assoc, List.cons_append, note1_torn n c hc q hq]
        rfl
      · intro m' F2 hm' hQ
        cases m' with
        | zero => exact Nat.le_refl _
        | succ m' =>
          exfalso
          rw [List.take_succ_cons, List.flatMap_cons, List.append_assoc] at hQ
          have e : ((notePages n).take c ++ (q :: r ++ Q2))[c]? = some q := by
            rw [List.getElem?_append_right (by rw [List.length_take]; omega), List.length_take, Nat.min_eq_left (by omega), Nat.sub_self]
            rfl
          rw [hQ, List.append_assoc, List.getElem?_append_left hc] at e
          have := (notePages_page n q (List.mem_of_getElem? e)).1
          rw [hq] at this
          cases this
end Go.LogM
end
section
namespace Go.LogM
open FlaM (FS pageAt doAll doOne nowR)
def progsFrom (g : Nat) : Nat → List Bs → List FlaM.Act
  | _, [] => []
  | a, b :: X => ⟨g, (a : Int), b⟩ :: progsFrom g (a + 1) X
theorem progsFrom_snoc (g : Nat) : ∀ (X : List Bs) (a : Nat) (b : Bs), progsFrom g a (X ++ [b]) = progsFrom g a X ++ [⟨g, ((a + X.length : Nat) : Int), b⟩]
  | [], a, b => rfl
  | x :: X, a, b => by
    show _ :: progsFrom g (a + 1) (X ++ [b]) = _
    rw [progsFrom_snoc g X (a + 1) b, List.length_cons, show a + 1 + X.length = a + (X.length + 1) by omega]
    rfl
theorem progsFrom_len (g : Nat) : ∀ (X : List Bs) (a : Nat), (progsFrom g a X).length = X.length
  | [], _ => rfl
  | _ :: X, a => by show (progsFrom g (a + 1) X).length + 1 = _; rw [progsFrom_len g X]; rfl
theorem nowR_progsN (g : Nat) : ∀ (n : Nat) (X : List Bs), X.length = n → ∀ (a j i : Nat), nowR (progsFrom g a X).reverse j i = if j = g ∧ a ≤ i ∧ i < a + X.length then X[i - a]? else none := by
  intro n
  induction n with
  | zero =>
    intro X hX a j i
    obtain rfl := List.eq_nil_of_length_eq_zero hX
    exact (if_neg (by simp <;> omega)).symm
  | succ n ihn =>
    intro Y hY a j i
    obtain ⟨X, b, rfl⟩ : ∃ X b, Y = X ++ [b] := by
      rcases List.eq_nil_or_concat Y with rfl | h
      · simp at hY
      · obtain ⟨l, b, h⟩ := h
        exact ⟨l, b, by rw [h, List.concat_eq_append]⟩
    have ih := ihn X (by simpa using hY)
    rw [progsFrom_snoc, List.reverse_append, List.reverse_singleton, List.singleton_append, FlaM.nowR]
    simp only
    by_cases h : j = g ∧ i = a + X.length
    · obtain ⟨rfl, rfl⟩ := h
      rw [if_pos ⟨rfl, rfl⟩, if_pos ⟨rfl, by omega, by simp⟩, List.getElem?_append_right (by omega), show a + X.length - a - X.length = 0 by omega]
      rfl
    · rw [if_neg (by rintro ⟨rfl, h2⟩; exact h ⟨rfl, by omega⟩), if_neg (by rintro ⟨_, h2⟩; omega), ih]
      by_cases h2 : j = g ∧ a ≤ i ∧ i < a + X.length
      · rw [if_pos h2, if_pos ⟨h2.1, h2.2.1, by simp; omega⟩, List.getElem?_append_left (by omega)]
      · rw [if_neg h2, if_neg]
        rintro ⟨h3, h4, h5⟩
        simp only [List.length_append, List.length_singleton] at h5
        exact h2 ⟨h3, h4, by
          rcases Nat.lt_or_ge i (a + X.length) with h6 | h6
          · exact h6
          · exact absurd ⟨h3, by omega⟩ h⟩
theorem nowR_progs (g : Nat) (X : List Bs) (a j i : Nat) : nowR (progsFrom g a X).reverse j i = if j = g ∧ a ≤ i ∧ i < a + X.length then X[i - a]? else none := nowR_progsN g X.length X rfl a j i
theorem doAll_progs (pp : Nat) (fates : List Int) (g n : Nat) (hg : g < n) : ∀ (X : List Bs) (a k : Nat) (safe : List (List Bs)), FlaM.Shape safe n pp → a + X.length ≤ pp → (∀ x ∈ X, x.length = 128) →
    ∀ j i, pageAt (doAll pp fates safe k (progsFrom g a X)) j i = if j = g ∧ a ≤ i ∧ i < a + X.length then (X.getD (i - a) []).take (min (fates.getD (k + (i - a)) 0).toNat 128) ++ (pageAt safe j i).drop (min (fates.getD (k + (i - a)) 0).toNat 128) else pageAt safe j i
  | [], a, k, safe, _, _, _, j, i => (if_neg (by simp <;> omega)).symm
  | x :: X, a, k, safe, hs, hl, hx, j, i => by
    have hx0 := hx x List.mem_cons_self
    simp only [List.length_cons] at hl
    have hone := FlaM.shape_one hs ⟨g, (a : Int), x⟩ ⟨hg, .inl ⟨by simp, by show (a : Int) < pp; omega, hx0⟩⟩ (fates.getD k 0)
    have e1 : ∀ j i, pageAt (doOne pp safe ⟨g, (a : Int), x⟩ (fates.getD k 0)) j i = if g = j ∧ a = i then x.take (min (fates.getD k 0).toNat 128) ++ (pageAt safe g a).drop (min (fates.getD k 0).toNat 128) else pageAt safe j i := by
      intro j i
      unfold FlaM.doOne
      simp only
      rw [if_pos (by simp), show ((a : Int)).toNat = a by simp]
      exact FlaM.setPage_at _ _ _ _ _ _ (by rw [hs.len]; exact hg) (by rw [hs.rows g hg]; omega)
    show pageAt (doAll pp fates (doOne pp safe ⟨g, (a : Int), x⟩ (fates.getD k 0)) (k + 1) (progsFrom g (a + 1) X)) j i = _
    rw [doAll_progs pp fates g n hg X (a + 1) (k + 1) _ hone (by omega) (fun y hy => hx y (List.mem_cons_of_mem _ hy))]
    by_cases h2 : j = g ∧ a + 1 ≤ i ∧ i < a + 1 + X.length
    · rw [if_pos h2, e1, if_neg (by rintro ⟨_, h4⟩; omega), if_pos ⟨h2.1, by omega, by simp only [List.length_cons]; omega⟩]
      obtain ⟨d, hd⟩ : ∃ d, i = a + 1 + d := ⟨i - (a + 1), by omega⟩
      rw [show i - (a + 1) = d by omega, show i - a = d + 1 by omega, List.getD_cons_succ, show k + 1 + d = k + (d + 1) by omega]
    · rw [if_neg h2, e1]
      by_cases h : g = j ∧ a = i
      · obtain ⟨h3, h4⟩ := h
        rw [if_pos ⟨h3, h4⟩, if_pos ⟨h3.symm, by omega, by simp only [List.length_cons]; omega⟩, show i - a = 0 by omega, h3, h4]
        rfl
      · rw [if_neg h, if_neg]
        rintro ⟨h3, h4, h5⟩
        simp only [List.length_cons] at h5
        rcases Nat.lt_or_ge a i with h6 | h6
        · exact h2 ⟨h3, by omega, by omega⟩
        · exact h ⟨h3.symm, by omega⟩
structure Phy (s : FS) (fr M : Nat) (F : Nat → List Bs) (g : Nat) (X : List Bs) (er : Bool) : Prop where
  len : s.safe.length = fr + M
  rows : ∀ j, j < M → ∀ i, i < s.pp → pageAt s.safe (fr + j) i = (F j).getD i FlaM.blank
  log : s.L = if er then [⟨fr + g, -1, []⟩] else progsFrom (fr + g) (F g).length X
  erF : er = true → F g = [] ∧ X = []
  gM : g < M ∨ (X = [] ∧ er = false)
  room : ∀ j, j < M → (F j).length ≤ s.pp
  roomX : (F g).length + X.length ≤ s.pp
  pages : (∀ j, ∀ p ∈ F j, p.length = 128) ∧ ∀ p ∈ X, p.length = 128
def onSeg (F : Nat → List Bs) (g : Nat) (X : List Bs) (j : Nat) : List Bs := if j = g then F j ++ X else F j
theorem getD_append {A B : List Bs} {i : Nat} {d : Bs} : (A ++ B).getD i d = if i < A.length then A.getD i d else B.getD (i - A.length) d := by
  simp only [List.getD_eq_getElem?_getD]
  split
  · rename_i h; rw [List.getElem?_append_left h]
  · rename_i h; rw [List.getElem?_append_right (by omega)]
section
variable {s : FS} {fr M : Nat} {F : Nat → List Bs} {g : Nat} {X : List Bs} {er : Bool}
theorem Phy.now (h : Phy s fr M F g X er) (j i : Nat) (hj : j < M) (hi : i < s.pp) : FlaM.now s (fr + j) i = (onSeg F g X j).getD i FlaM.blank := by
  unfold FlaM.now onSeg
  rw [h.log, h.rows j hj i hi]
  cases er
  · simp only [Bool.false_eq_true, if_false]
    rw [nowR_progs]
    by_cases hjg : j = g
    · subst hjg
      rw [if_pos rfl, getD_append]
      by_cases hin : i < (F j).length
      · rw [if_neg (by omega), if_pos hin]; rfl
      · rw [if_neg hin]
        by_cases h2 : i < (F j).length + X.length
        · rw [if_pos ⟨rfl, by omega, h2⟩, List.getD_eq_getElem?_getD (l := X), List.getElem?_eq_getElem (show i - (F j).length < X.length by omega)]; rfl
        · rw [if_neg (by omega), List.getD_eq_getElem?_getD, List.getD_eq_getElem?_getD, List.getElem?_eq_none (by omega), List.getElem?_eq_none (by omega)]; rfl
    · rw [if_neg (by omega), if_neg hjg]; rfl
  · obtain ⟨e1, e2⟩ := h.erF rfl
    simp only [if_true, List.reverse_singleton]
    by_cases hjg : j = g
    · subst hjg
      rw [if_pos rfl, e1, e2]
      simp [FlaM.nowR]
    · rw [if_neg hjg]
      simp only [FlaM.nowR]
      rw [if_neg (by rintro ⟨h1, _⟩; omega), if_neg (by rintro ⟨h1, _⟩; omega)]
      rfl
theorem Phy.shape {N : Nat} (h : Phy s fr M F g X er) (ok : FlaM.Ok s N) : FlaM.Shape s.safe (fr + M) s.pp := by
  have := ok.shape
  rwa [h.len] at this
theorem clear_blank {N : Nat} (h : Phy s fr M F g X er) (ok : FlaM.Ok s N) (he : er = true) (m : Nat) (hm : m ≤ s.pp) (j i : Nat) (hi : i < s.pp) (hj : j < M) : pageAt (FlaM.clearTo s.safe (fr + g) m) (fr + j) i = (F j).getD i FlaM.blank := by
  obtain ⟨e1, e2⟩ := h.erF he
  have hg : g < M := by
    rcases h.gM with h1 | ⟨_, h2⟩
    · exact h1
    · rw [he] at h2; cases h2
  have hs := h.shape ok
  rw [FlaM.clearTo_at _ _ _ _ _ (by rw [hs.len]; omega) (by rw [hs.rows _ (by omega)]; exact hm), h.rows j hj i hi]
  split
  · rename_i hc
    have : g = j := by omega
    subst this
    rw [e1]; rfl
  · rfl
theorem Phy.same {s' : FS} (h : Phy s fr M F g X er) (e1 : s'.safe = s.safe) (e2 : s'.L = s.L) (e3 : s'.pp = s.pp) : Phy s' fr M F g X er :=
  ⟨by rw [e1]; exact h.len, fun j hj i hi => by rw [e1]; exact h.rows j hj i (by rw [← e3]; exact hi), by rw [e2]; exact h.log, h.erF, h.gM, fun j hj => by rw [e3]; exact h.room j hj, by rw [e3]; exact h.roomX, h.pages⟩
theorem trip_same (s : FS) : (FlaM.trip s).safe = s.safe ∧ (FlaM.trip s).L = s.L ∧ (FlaM.trip s).pp = s.pp := by
  obtain ⟨e1, e2, _, _, e5⟩ := FlaM.trip_safe s
  exact ⟨e1, e2, e5⟩
theorem Phy.trip (h : Phy s fr M F g X er) : Phy (FlaM.trip s) fr M F g X er := by
  obtain ⟨e1, e2, e3⟩ := trip_same s
  exact h.same e1 e2 e3
def Live (s : FS) : Prop := s.off = false ∧ s.left = -1
theorem live_trip (h : Live s) : FlaM.trip s = s := by
  unfold FlaM.trip
  rw [if_neg (by rw [h.2]; decide)]
theorem live_okd (h : Live s) : Live (FlaM.okd s) := ⟨h.1, by show (if 0 < s.left then s.left - 1 else s.left) = -1; rw [h.2]; rfl⟩
structure Did (s : FS) (r : FS × Nat) (fr M : Nat) (F F' : Nat → List Bs) (g g' : Nat) (X X' : List Bs) (er er' : Bool) : Prop where
  pp : r.1.pp = s.pp
  or : (r.2 = 0 ∧ Phy r.1 fr M F' g' X' er') ∨ (r.2 = 6 ∧ r.1.off = true ∧ Phy r.1 fr M F g X er)
  live : Live s → r.2 = 0 ∧ Live r.1
  dead : s.off = true → r.2 = 6
theorem Phy.prog {N : Nat} (h : Phy s fr M F g X er) (ok : FlaM.Ok s N) (b : Bs) (hb : b.length = 128) (hg : g < M) (her : er = false) (i : Nat) (hi : i = (F g).length + X.length) (hip : i < s.pp) :
    Did s (FlaM.progF s ((fr + g : Nat) : Int) (i : Int) b) fr M F F g g X (X ++ [b]) er false := by
  have ht : FlaM.there s ((fr + g : Nat) : Int) (i : Int) = true := by
    unfold FlaM.there
    have := h.len
    simp
    omega
  have hnow : FlaM.now s (fr + g) i = FlaM.blank := by
    rw [h.now g i hg hip]
    unfold onSeg
    rw [if_pos rfl, List.getD_eq_getElem?_getD, List.getElem?_eq_none (by rw [List.length_append]; omega)]
    rfl
  have e0 : FlaM.progF s ((fr + g : Nat) : Int) (i : Int) b = if s.off then (s, 6) else if (FlaM.trip s).off then (FlaM.trip s, 6) else (FlaM.okd { FlaM.trip s with L := (FlaM.trip s).L ++ [⟨fr + g, (i : Int), b⟩] }, 0) := by
    unfold FlaM.progF
    rw [if_neg (by rw [ht]; simp [hb])]
    simp only [Int.toNat_natCast]
    by_cases ho : s.off = true
    · rw [if_pos ho, if_pos ho]
    · rw [if_neg ho, if_neg ho, if_neg (by rw [hnow]; simp)]
  rw [e0]
  obtain ⟨t1, t2, t3⟩ := trip_same s
  by_cases ho : s.off = true
  · rw [if_pos ho]
    exact ⟨rfl, .inr ⟨rfl, ho, h⟩, fun hl => absurd ho (by rw [hl.1]; decide), fun _ => rfl⟩
  rw [if_neg ho]
  by_cases ht' : (FlaM.trip s).off = true
  · rw [if_pos ht']
    exact ⟨t3, .inr ⟨rfl, ht', h.trip⟩, fun hl => by rw [live_trip hl] at ht'; exact absurd ht' ho, fun h => absurd h ho⟩
  rw [if_neg ht']
  refine ⟨t3, .inl ⟨rfl, ?_⟩, fun hl => ⟨rfl, ?_⟩, fun h => absurd h ho⟩
  · refine ⟨?_, ?_, ?_, (fun h => by cases h), .inl hg, ?_, ?_, h.pages.1, ?_⟩
    · show (FlaM.trip s).safe.length = _
      rw [t1]; exact h.len
    · intro j hj i' hi'
      show pageAt (FlaM.trip s).safe (fr + j) i' = _
      rw [t1]
      exact h.rows j hj i' (by rw [← t3]; exact hi')
    · show (FlaM.trip s).L ++ [⟨fr + g, (i : Int), b⟩] = _
      rw [t2, h.log, her]
      simp only [Bool.false_eq_true, if_false]
      rw [progsFrom_snoc, hi]
    · intro j hj
      show _ ≤ (FlaM.trip s).pp
      rw [t3]; exact h.room j hj
    · show _ ≤ (FlaM.trip s).pp
      rw [t3, List.length_append, List.length_singleton]; omega
    · intro p hp
      rcases List.mem_append.1 hp with hp | hp
      · exact h.pages.2 p hp
      · rw [List.mem_singleton.1 hp]; exact hb
  · have hl2 : Live { FlaM.trip s with L := (FlaM.trip s).L ++ [⟨fr + g, (i : Int), b⟩] } := by
      rw [live_trip hl]; exact ⟨hl.1, hl.2⟩
    exact live_okd hl2
theorem Phy.erase {N : Nat} (h : Phy s fr M F g X er) (ok : FlaM.Ok s N) (hX : X = []) (her : er = false) (g' : Nat) (hg : g' < M) (hF : F g' = []) :
    Did s (FlaM.erase s ((fr + g' : Nat) : Int)) fr M F F g g' X [] er true := by
  have ht : FlaM.there s ((fr + g' : Nat) : Int) 0 = true := by
    unfold FlaM.there
    have := h.len
    have := ok.pp
    simp
    omega
  have e0 : FlaM.erase s ((fr + g' : Nat) : Int) = if (FlaM.trip s).off then (FlaM.trip s, 6) else (FlaM.okd { FlaM.trip s with L := (FlaM.trip s).L ++ [⟨fr + g', -1, []⟩], wear := FlaM.bump (FlaM.trip s).wear (fr + g') }, 0) := by
    unfold FlaM.erase
    rw [if_neg (by rw [ht]; decide)]
    rfl
  rw [e0]
  obtain ⟨t1, t2, t3⟩ := trip_same s
  have hdead : s.off = true → (FlaM.trip s).off = true := by
    intro ho
    unfold FlaM.trip
    split
    · rfl
    · exact ho
  by_cases ht' : (FlaM.trip s).off = true
  · rw [if_pos ht']
    exact ⟨t3, .inr ⟨rfl, ht', h.trip⟩, (fun hl => by rw [live_trip hl, hl.1] at ht'; cases ht'), fun _ => rfl⟩
  rw [if_neg ht']
  refine ⟨t3, .inl ⟨rfl, ?_⟩, fun hl => ⟨rfl, ?_⟩, fun ho => absurd (hdead ho) ht'⟩
  · refine ⟨?_, ?_, ?_, fun _ => ⟨hF, rfl⟩, .inl hg, ?_, ?_, h.pages.1, fun p hp => by cases hp⟩
    · show (FlaM.trip s).safe.length = _
      rw [t1]; exact h.len
    · intro j hj i' hi'
      show pageAt (FlaM.trip s).safe (fr + j) i' = _
      rw [t1]
      exact h.rows j hj i' (by rw [← t3]; exact hi')
    · show (FlaM.trip s).L ++ [⟨fr + g', -1, []⟩] = _
      rw [t2, h.log, her, hX]
      rfl
    · intro j hj
      show _ ≤ (FlaM.trip s).pp
      rw [t3]; exact h.room j hj
    · show _ ≤ (FlaM.trip s).pp
      rw [hF]; exact Nat.zero_le _
  · have hl2 : Live { FlaM.trip s with L := (FlaM.trip s).L ++ [⟨fr + g', -1, []⟩], wear := FlaM.bump (FlaM.trip s).wear (fr + g') } := by
      rw [live_trip hl]; exact ⟨hl.1, hl.2⟩
    exact live_okd hl2
theorem Phy.barrier {N : Nat} (h : Phy s fr M F g X er) (ok : FlaM.Ok s N) :
    Did s (FlaM.barrier s) fr M F (onSeg F g X) g g X [] er false := by
  have e0 : FlaM.barrier s = if (FlaM.trip s).off then (FlaM.trip s, 6) else (FlaM.okd (FlaM.some' (FlaM.trip s) (List.replicate (FlaM.trip s).L.length 128)), 0) := rfl
  rw [e0]
  obtain ⟨t1, t2, t3⟩ := trip_same s
  have hdead : s.off = true → (FlaM.trip s).off = true := by
    intro ho
    unfold FlaM.trip
    split
    · rfl
    · exact ho
  by_cases ht' : (FlaM.trip s).off = true
  · rw [if_pos ht']
    exact ⟨t3, .inr ⟨rfl, ht', h.trip⟩, (fun hl => by rw [live_trip hl, hl.1] at ht'; cases ht'), fun _ => rfl⟩
  rw [if_neg ht']
  refine ⟨t3, .inl ⟨rfl, ?_⟩, fun hl => ⟨rfl, ?_⟩, fun ho => absurd (hdead ho) ht'⟩
  · have hs := h.shape ok
    have hsafe : ∀ j, j < M → ∀ i, i < s.pp → pageAt (doAll s.pp (List.replicate s.L.length 128) s.safe 0 s.L) (fr + j) i = (onSeg F g X j).getD i FlaM.blank := by
      intro j hj i hi
      rw [h.log]
      cases er
      · simp only [Bool.false_eq_true, if_false]
        rcases h.gM with hg | ⟨hX, _⟩
        · rw [doAll_progs s.pp _ (fr + g) (fr + M) (by omega) X _ 0 s.safe hs h.roomX h.pages.2, h.rows j hj i hi, progsFrom_len]
          unfold onSeg
          by_cases hc : fr + j = fr + g ∧ (F g).length ≤ i ∧ i < (F g).length + X.length
          · obtain ⟨h1, h2, h3⟩ := hc
            have hjg : j = g := by omega
            subst hjg
            rw [if_pos ⟨rfl, h2, h3⟩, if_pos rfl, getD_append, if_neg (by omega), Nat.zero_add]
            have hx : X.getD (i - (F j).length) [] = X.getD (i - (F j).length) FlaM.blank := by
              rw [List.getD_eq_getElem?_getD, List.getD_eq_getElem?_getD, List.getElem?_eq_getElem (by omega)]; rfl
            have hx2 : (X.getD (i - (F j).length) FlaM.blank).length = 128 := by
              rw [List.getD_eq_getElem?_getD, List.getElem?_eq_getElem (show i - (F j).length < X.length by omega)]
              exact h.pages.2 _ (List.getElem_mem _)
            have hf : (List.replicate X.length (128 : Int)).getD (i - (F j).length) 0 = 128 := by
              rw [List.getD_eq_getElem?_getD, List.getElem?_replicate, if_pos (by omega)]; rfl
            rw [hf, hx, show (min ((128 : Int).toNat) 128) = 128 from rfl, List.take_of_length_le (by omega), List.getD_eq_getElem?_getD (l := F j), List.getElem?_eq_none (show (F j).length ≤ i from h2), Option.getD_none, List.drop_of_length_le (by rw [FlaM.blank_len]; exact Nat.le_refl _), List.append_nil]
          · rw [if_neg hc]
            by_cases hjg : j = g
            · subst hjg
              rw [if_pos rfl, getD_append]
              split
              · rfl
              · rw [List.getD_eq_getElem?_getD, List.getD_eq_getElem?_getD, List.getElem?_eq_none (by omega), List.getElem?_eq_none (by omega)]
            · rw [if_neg hjg]
        · subst hX
          show pageAt s.safe (fr + j) i = _
          rw [h.rows j hj i hi]
          unfold onSeg
          split <;> simp
      · obtain ⟨e1, e2⟩ := h.erF rfl
        simp only [if_true]
        have e : pageAt (doOne s.pp s.safe ⟨fr + g, -1, []⟩ ((List.replicate ([⟨fr + g, -1, []⟩] : List FlaM.Act).length (128 : Int)).getD 0 0)) (fr + j) i = (F j).getD i FlaM.blank := by
          unfold FlaM.doOne
          simp only
          rw [if_neg (by omega)]
          exact clear_blank h ok rfl _ (by omega) j i hi hj
        show pageAt (doOne s.pp s.safe ⟨fr + g, -1, []⟩ ((List.replicate ([⟨fr + g, -1, []⟩] : List FlaM.Act).length (128 : Int)).getD 0 0)) (fr + j) i = _
        rw [e]
        unfold onSeg
        split
        · rw [e2, List.append_nil]
        · rfl
    have hacts : ∀ a ∈ s.L, a.seg < fr + M ∧ ((0 ≤ a.page ∧ a.page < (s.pp : Int) ∧ a.b.length = 128) ∨ (a.page = -1 ∧ a.b = [])) := by
      intro a ha
      have := ok.acts a ha
      rwa [h.len] at this
    have hsh := FlaM.shape_all (List.replicate s.L.length 128) s.L s.safe 0 hs hacts
    refine ⟨?_, ?_, rfl, (fun h => by cases h), .inr ⟨rfl, rfl⟩, ?_, ?_, ⟨?_, fun p hp => by cases hp⟩⟩
    · show (doAll (FlaM.trip s).pp (List.replicate (FlaM.trip s).L.length 128) (FlaM.trip s).safe 0 (FlaM.trip s).L).length = _
      rw [t1, t2, t3]; exact hsh.len
    · intro j hj i hi
      show pageAt (doAll (FlaM.trip s).pp (List.replicate (FlaM.trip s).L.length 128) (FlaM.trip s).safe 0 (FlaM.trip s).L) (fr + j) i = _
      rw [t1, t2, t3]
      exact hsafe j hj i (by rw [← t3]; exact hi)
    · intro j hj
      show _ ≤ (FlaM.trip s).pp
      rw [t3]
      unfold onSeg
      split
      · rename_i h1
        subst h1
        rw [List.length_append]
        exact h.roomX
      · exact h.room j hj
    · show _ + 0 ≤ (FlaM.trip s).pp
      rw [t3]
      unfold onSeg
      rw [if_pos rfl, List.length_append]
      exact h.roomX
    · intro j p hp
      unfold onSeg at hp
      split at hp
      · rcases List.mem_append.1 hp with hp | hp
        · exact h.pages.1 j p hp
        · exact h.pages.2 p hp
      · exact h.pages.1 j p hp
  · have hl2 : Live (FlaM.some' (FlaM.trip s) (List.replicate (FlaM.trip s).L.length 128)) := by
      rw [live_trip hl]; exact ⟨hl.1, hl.2⟩
    exact live_okd hl2
end
end Go.LogM
end
section
namespace Go.TabM
structure Sg where
  kind : Nat
  seq : Nat
  wear : Nat
def zS : Sg := ⟨0, 0, 0⟩
structure T where
  rows : List Sg
  next : Nat
def at_ (l : List Sg) (i : Nat) : Sg := l.getD i zS
def curF : Nat → List Sg → Option Nat
  | _, [] => none
  | i, s :: l => if s.kind = 1 then some i else curF (i + 1) l
def cur (t : T) : Option Nat := curF 0 t.rows
def takes (b : Option (Nat × Nat)) (s : Sg) : Bool := decide (s.kind = 0) && (match b with | none => true | some p => decide (s.wear < p.2))
def bestF : Option (Nat × Nat) → Nat → List Sg → Option (Nat × Nat)
  | b, _, [] => b
  | b, i, s :: l => bestF (if takes b s then some (i, s.wear) else b) (i + 1) l
def best (t : T) : Option (Nat × Nat) := bestF none 0 t.rows
def opened (t : T) (i w : Nat) : T := ⟨t.rows.set i ⟨1, t.next, w + 1⟩, t.next + 1⟩
def openT (t : T) : T × (Nat × Nat × Nat) :=
  match cur t with
  | some _ => (t, (0, 0, 3))
  | none => match best t with
    | none => (t, (0, 0, 5))
    | some (i, w) => (opened t i w, (i, t.next, 0))
def sealT (t : T) : T × Nat :=
  match cur t with
  | none => (t, 2)
  | some i => (⟨t.rows.set i { at_ t.rows i with kind := 2 }, t.next⟩, 0)
def aheadN (rows : List Sg) (q : Nat) : List Nat → Nat
  | [] => 0
  | i :: l => if (at_ rows i).seq ≤ q then aheadN rows q l + 1 else 0
def ins (rows : List Sg) (l : List Nat) (i : Nat) : List Nat := l.take (aheadN rows (at_ rows i).seq l) ++ i :: l.drop (aheadN rows (at_ rows i).seq l)
def sealedF (rows : List Sg) : List Nat → Nat → List Sg → List Nat
  | acc, _, [] => acc
  | acc, i, s :: l => sealedF rows (if s.kind = 2 then ins rows acc i else acc) (i + 1) l
def sealedL (t : T) : List Nat := sealedF t.rows [] 0 t.rows
def fresh (n : Nat) : T := ⟨List.replicate n zS, 1⟩
def mayBe (n : Int) : Bool := decide (0 ≤ n) && decide (n ≤ 256)
structure ActD where
  kind : UInt8
  seg : Int
theorem at_eq {l : List Sg} {i : Nat} {s : Sg} (h : l[i]? = some s) : at_ l i = s := by unfold at_; rw [List.getD_eq_getElem?_getD, h]; rfl
theorem at_get {l : List Sg} {i : Nat} (h : i < l.length) : l[i]? = some (at_ l i) := by
  unfold at_; rw [List.getD_eq_getElem?_getD, List.getElem?_eq_getElem h]; rfl
theorem at_mem {l : List Sg} {i : Nat} (h : i < l.length) : at_ l i ∈ l := List.mem_of_getElem? (at_get h)
structure Ok (t : T) (N : Nat) : Prop where
  len : t.rows.length ≤ 256
  kind : ∀ s ∈ t.rows, s.kind ≤ 2
  wear : ∀ s ∈ t.rows, s.wear ≤ N
  seq : ∀ s ∈ t.rows, s.seq ≤ N
  low : 1 ≤ t.next
  next : t.next ≤ N + 1
theorem Ok.more {t : T} {N M : Nat} (h : Ok t N) (hm : N ≤ M) : Ok t M :=
  ⟨h.len, h.kind, fun s hs => Nat.le_trans (h.wear s hs) hm, fun s hs => Nat.le_trans (h.seq s hs) hm, h.low, by have := h.next; omega⟩
theorem ok_fresh (n : Nat) (h : n ≤ 256) : Ok (fresh n) 0 := by
  refine ⟨by simpa [fresh] using h, ?_, ?_, ?_, Nat.le_refl _, Nat.le_refl _⟩ <;> intro s hs <;> rw [show s = zS from List.eq_of_mem_replicate hs] <;> decide
theorem curF_some : ∀ (l : List Sg) (j i : Nat), curF j l = some i → ∃ k s, i = j + k ∧ l[k]? = some s ∧ s.kind = 1
  | [], _, _, h => by cases h
  | s :: l, j, i, h => by
    unfold curF at h
    by_cases hs : s.kind = 1
    · rw [if_pos hs] at h
      cases h
      exact ⟨0, s, rfl, rfl, hs⟩
    · rw [if_neg hs] at h
      obtain ⟨k, s', e, h1, h2⟩ := curF_some l (j + 1) i h
      exact ⟨k + 1, s', by omega, h1, h2⟩
theorem cur_some {t : T} {i : Nat} (h : cur t = some i) : i < t.rows.length ∧ (at_ t.rows i).kind = 1 := by
  obtain ⟨k, s, e, h1, h2⟩ := curF_some _ _ _ h
  rw [Nat.zero_add] at e
  subst e
  exact ⟨(List.getElem?_eq_some_iff.1 h1).1, by rw [at_eq h1]; exact h2⟩
theorem curF_none : ∀ (l : List Sg) (j : Nat), curF j l = none → ∀ s ∈ l, s.kind ≠ 1
  | [], _, _, s, hs => by cases hs
  | x :: l, j, h, s, hs => by
    unfold curF at h
    by_cases hx : x.kind = 1
    · rw [if_pos hx] at h; cases h
    · rw [if_neg hx] at h
      rcases List.mem_cons.1 hs with rfl | hs
      · exact hx
      · exact curF_none l _ h s hs
theorem bestF_some : ∀ (l : List Sg) (b : Option (Nat × Nat)) (j : Nat) (p : Nat × Nat), bestF b j l = some p → b = some p ∨ ∃ k s, p.1 = j + k ∧ l[k]? = some s ∧ s.kind = 0 ∧ s.wear = p.2
  | [], b, j, p, h => .inl h
  | x :: l, b, j, p, h => by
    unfold bestF at h
    rcases bestF_some l _ _ _ h with h1 | ⟨k, s, e, h1, h2, h3⟩
    · by_cases ht : takes b x = true
      · rw [if_pos ht] at h1
        cases h1
        refine .inr ⟨0, x, rfl, rfl, ?_, rfl⟩
        unfold takes at ht
        simp only [Bool.and_eq_true, decide_eq_true_eq] at ht
        exact ht.1
      · rw [if_neg ht] at h1
        exact .inl h1
    · exact .inr ⟨k + 1, s, by omega, h1, h2, h3⟩
theorem best_some {t : T} {i w : Nat} (h : best t = some (i, w)) : i < t.rows.length ∧ (at_ t.rows i).kind = 0 ∧ (at_ t.rows i).wear = w := by
  rcases bestF_some _ _ _ _ h with h1 | ⟨k, s, e, h1, h2, h3⟩
  · cases h1
  · simp only [Nat.zero_add] at e h3
    subst e
    exact ⟨(List.getElem?_eq_some_iff.1 h1).1, by rw [at_eq h1]; exact h2, by rw [at_eq h1]; exact h3⟩
theorem mem_set {l : List Sg} {i : Nat} {x s : Sg} (h : s ∈ l.set i x) : s = x ∨ s ∈ l := by
  rcases List.mem_or_eq_of_mem_set h with h | h
  · exact .inr h
  · exact .inl h
theorem ok_open {t : T} {N : Nat} (h : Ok t N) : Ok (openT t).1 (N + 1) := by
  unfold openT
  split
  · exact h.more (Nat.le_succ _)
  · split
    · exact h.more (Nat.le_succ _)
    · rename_i i w hb
      obtain ⟨hi, hk, hw⟩ := best_some hb
      have hwN : w ≤ N := by rw [← hw]; exact h.wear _ (at_mem hi)
      refine ⟨by simpa [opened] using h.len, ?_, ?_, ?_, by have := h.low; simp [opened], by have := h.next; simp [opened]; omega⟩
      · intro s hs
        rcases mem_set hs with rfl | hs
        · exact Nat.le_succ 1
        · exact h.kind s hs
      · intro s hs
        rcases mem_set hs with rfl | hs
        · show w + 1 ≤ N + 1; omega
        · exact Nat.le_succ_of_le (h.wear s hs)
      · intro s hs
        rcases mem_set hs with rfl | hs
        · exact h.next
        · exact Nat.le_succ_of_le (h.seq s hs)
theorem ok_seal {t : T} {N : Nat} (h : Ok t N) : Ok (sealT t).1 N := by
  unfold sealT
  split
  · exact h
  · rename_i i hc
    obtain ⟨hi, _⟩ := cur_some hc
    refine ⟨by simpa using h.len, ?_, ?_, ?_, h.low, h.next⟩ <;> intro s hs <;> rcases mem_set hs with rfl | hs
    · exact Nat.le_refl 2
    · exact h.kind s hs
    · exact h.wear (at_ t.rows i) (at_mem hi)
    · exact h.wear s hs
    · exact h.seq (at_ t.rows i) (at_mem hi)
    · exact h.seq s hs
theorem ins_mem {rows : List Sg} {l : List Nat} {i j : Nat} (h : j ∈ ins rows l i) : j = i ∨ j ∈ l := by
  unfold ins at h
  rcases List.mem_append.1 h with h | h
  · exact .inr (List.mem_of_mem_take h)
  · rcases List.mem_cons.1 h with h | h
    · exact .inl h
    · exact .inr (List.mem_of_mem_drop h)
structure LoadOk (rows : List Sg) (next : Nat) : Prop where
  len : rows.length ≤ 256
  low : 1 ≤ next
  free : ∀ s ∈ rows, s.kind = 0 → s.seq = 0
  used : ∀ s ∈ rows, s.kind ≠ 0 → s.kind ≤ 2 ∧ 1 ≤ s.seq ∧ s.seq < next
  apart : ∀ i j (hi : i < rows.length) (hj : j < rows.length), i ≠ j → rows[i].seq = rows[j].seq → rows[i].seq = 0
  one : ∀ i j (hi : i < rows.length) (hj : j < rows.length), rows[i].kind = 1 → rows[j].kind = 1 → i = j
theorem at_lt {l : List Sg} {i : Nat} (h : i < l.length) : at_ l i = l[i] := at_eq (List.getElem?_eq_getElem h)
end Go.TabM
end
section
namespace Go.LogM
open TabM (Sg zS T at_)
def rowAt (k : Nat) (op : Bool) (i : Nat) : Sg := if i < k then ⟨if op = true ∧ i + 1 = k then 1 else 2, i + 1, 1⟩ else zS
theorem rowAt_seq {k i : Nat} {op : Bool} (h : i < k) : (rowAt k op i).seq = i + 1 := by unfold rowAt; rw [if_pos h]
def tabOf (M k : Nat) (op : Bool) : T := ⟨(List.range M).map (rowAt k op), k + 1⟩
theorem tab_len (M k : Nat) (op : Bool) : (tabOf M k op).rows.length = M := by simp [tabOf]
theorem tab_at {M k : Nat} {op : Bool} {i : Nat} (h : i < M) : at_ (tabOf M k op).rows i = rowAt k op i := by
  apply TabM.at_eq
  show ((List.range M).map (rowAt k op))[i]? = _
  rw [List.getElem?_map, List.getElem?_range h]; rfl
theorem tab_fresh (M : Nat) : TabM.fresh M = tabOf M 0 false := by
  unfold TabM.fresh tabOf
  congr 1
  apply List.ext_getElem?
  intro i
  rw [List.getElem?_replicate, List.getElem?_map]
  by_cases h : i < M
  · rw [if_pos h, List.getElem?_range h]; rfl
  · rw [if_neg h, List.getElem?_eq_none (by simpa using h)]; rfl
theorem curF_first : ∀ (l : List Sg) (j n : Nat), n < l.length → (∀ i, i < n → (at_ l i).kind ≠ 1) → (at_ l n).kind = 1 → TabM.curF j l = some (j + n)
  | [], _, _, h, _, _ => absurd h (Nat.not_lt_zero _)
  | s :: l, j, 0, _, _, h => by
    have h' : s.kind = 1 := h
    unfold TabM.curF
    rw [if_pos h']; rfl
  | s :: l, j, n + 1, h, h1, h2 => by
    have h' : ¬ s.kind = 1 := h1 0 (Nat.succ_pos _)
    unfold TabM.curF
    rw [if_neg h', curF_first l (j + 1) n (by simpa using h) (fun i hi => h1 (i + 1) (Nat.succ_lt_succ hi)) h2]
    congr 1; omega
theorem curF_no : ∀ (l : List Sg) (j : Nat), (∀ s ∈ l, s.kind ≠ 1) → TabM.curF j l = none
  | [], _, _ => rfl
  | s :: l, j, h => by
    unfold TabM.curF
    rw [if_neg (h s List.mem_cons_self)]
    exact curF_no l _ (fun x hx => h x (List.mem_cons_of_mem _ hx))
theorem tab_cur {M k : Nat} (h : 0 < k) (hM : k ≤ M) : TabM.cur (tabOf M k true) = some (k - 1) := by
  have := curF_first (tabOf M k true).rows 0 (k - 1) (by rw [tab_len]; omega) ?_ ?_
  · rw [Nat.zero_add] at this; exact this
  · intro i hi
    rw [tab_at (by omega)]
    unfold rowAt
    rw [if_pos (by omega), if_neg (by omega)]
    simp
  · rw [tab_at (by omega)]
    unfold rowAt
    rw [if_pos (by omega), if_pos ⟨rfl, by omega⟩]
theorem tab_mem {M k : Nat} {op : Bool} {s : Sg} (h : s ∈ (tabOf M k op).rows) : ∃ i, i < M ∧ s = rowAt k op i := by
  obtain ⟨i, hi, rfl⟩ := List.mem_map.1 h
  exact ⟨i, List.mem_range.1 hi, rfl⟩
theorem tab_nocur (M k : Nat) : TabM.cur (tabOf M k false) = none := by
  refine curF_no _ _ ?_
  intro s hs
  obtain ⟨i, hi, rfl⟩ := tab_mem hs
  unfold rowAt
  split
  · simp
  · decide
theorem bestF_stay : ∀ (l : List Sg) (i j : Nat), TabM.bestF (some (i, 0)) j l = some (i, 0)
  | [], _, _ => rfl
  | s :: l, i, j => by
    unfold TabM.bestF
    rw [if_neg (by simp [TabM.takes])]
    exact bestF_stay l i _
theorem bestF_first : ∀ (l : List Sg) (j n : Nat), n < l.length → (∀ i, i < n → (at_ l i).kind ≠ 0) → at_ l n = zS → TabM.bestF none j l = some (j + n, 0)
  | [], _, _, h, _, _ => absurd h (Nat.not_lt_zero _)
  | s :: l, j, 0, _, _, h => by
    have hs : s = zS := h
    subst hs
    have ht : TabM.takes none zS = true := by decide
    unfold TabM.bestF
    rw [if_pos ht]
    exact bestF_stay l _ _
  | s :: l, j, n + 1, h, h1, h2 => by
    have hs : s.kind ≠ 0 := h1 0 (Nat.succ_pos _)
    unfold TabM.bestF
    rw [if_neg (by simp [TabM.takes, hs]), bestF_first l (j + 1) n (by simpa using h) (fun i hi => h1 (i + 1) (Nat.succ_lt_succ hi)) h2]
    congr 2; omega
theorem tab_best {M k : Nat} (h : k < M) : TabM.best (tabOf M k false) = some (k, 0) := by
  have := bestF_first (tabOf M k false).rows 0 k (by rw [tab_len]; exact h) ?_ ?_
  · rw [Nat.zero_add] at this; exact this
  · intro i hi
    rw [tab_at (by omega)]
    unfold rowAt
    rw [if_pos hi]
    simp
  · rw [tab_at h]
    unfold rowAt
    rw [if_neg (by omega)]
theorem map_set_range {α : Type} (f g : Nat → α) (M i : Nat) (x : α) (hi : f i = x) (h : ∀ j, j ≠ i → f j = g j) : ((List.range M).map g).set i x = (List.range M).map f := by
  apply List.ext_getElem?
  intro j
  rw [List.getElem?_set]
  by_cases hj : i = j
  · subst hj
    rw [if_pos rfl]
    by_cases hM : i < M
    · rw [if_pos (by simpa using hM), List.getElem?_map, List.getElem?_range hM, Option.map_some, hi]
    · rw [if_neg (by simpa using hM), List.getElem?_map, List.getElem?_eq_none (by simpa using hM)]; rfl
  · rw [if_neg hj, List.getElem?_map, List.getElem?_map]
    by_cases hM : j < M
    · rw [List.getElem?_range hM, Option.map_some, Option.map_some, h j (fun e => hj e.symm)]
    · rw [List.getElem?_eq_none (by simpa using hM)]; rfl
theorem tab_open {M k : Nat} (h : k < M) : TabM.openT (tabOf M k false) = (tabOf M (k + 1) true, (k, k + 1, 0)) := by
  unfold TabM.openT
  rw [tab_nocur, tab_best h]
  simp only
  refine Prod.ext ?_ rfl
  show TabM.opened (tabOf M k false) k 0 = _
  unfold TabM.opened tabOf
  simp only
  congr 1
  refine map_set_range (rowAt (k + 1) true) (rowAt k false) M k _ ?_ ?_
  · unfold rowAt
    rw [if_pos (by omega), if_pos ⟨rfl, rfl⟩]
  · intro j hj
    unfold rowAt
    by_cases h1 : j < k
    · rw [if_pos (by omega), if_pos h1, if_neg (by omega), if_neg (by simp)]
    · rw [if_neg (by omega), if_neg h1]
theorem tab_seal {M k : Nat} (h : 0 < k) (hM : k ≤ M) : TabM.sealT (tabOf M k true) = (tabOf M k false, 0) := by
  unfold TabM.sealT
  rw [tab_cur h hM]
  simp only
  refine Prod.ext ?_ rfl
  have e1 : rowAt k true (k - 1) = ⟨1, k - 1 + 1, 1⟩ := by unfold rowAt; rw [if_pos (by omega), if_pos ⟨rfl, by omega⟩]
  have e2 : rowAt k false (k - 1) = ⟨2, k - 1 + 1, 1⟩ := by unfold rowAt; rw [if_pos (by omega), if_neg (by simp)]
  rw [tab_at (by omega), e1]
  unfold tabOf
  simp only
  congr 1
  refine map_set_range (rowAt k false) (rowAt k true) M (k - 1) _ ?_ ?_
  · exact e2
  · intro j hj
    unfold rowAt
    by_cases h1 : j < k
    · rw [if_pos h1, if_pos h1, if_neg (by simp), if_neg (by omega)]
    · rw [if_neg h1, if_neg h1]
theorem tab_ok {M k N : Nat} (op : Bool) (hM : M ≤ 256) (hk : k ≤ N) (hN : 1 ≤ N) : TabM.Ok (tabOf M k op) N := by
  refine ⟨by rw [tab_len]; exact hM, ?_, ?_, ?_, Nat.succ_pos _, Nat.succ_le_succ hk⟩
  all_goals
    intro s hs
    obtain ⟨i, hi, rfl⟩ := tab_mem hs
    unfold rowAt
    split
  · show (if _ then 1 else 2) ≤ 2
    split <;> omega
  · exact Nat.zero_le _
  · exact hN
  · exact Nat.zero_le _
  · show i + 1 ≤ N; omega
  · exact Nat.zero_le _
theorem ahead_all (rows : List Sg) (q : Nat) : ∀ l : List Nat, (∀ i ∈ l, (at_ rows i).seq ≤ q) → TabM.aheadN rows q l = l.length
  | [], _ => rfl
  | i :: l, h => by
    unfold TabM.aheadN
    rw [if_pos (h i List.mem_cons_self), ahead_all rows q l (fun x hx => h x (List.mem_cons_of_mem _ hx))]; rfl
theorem sealedF_range {M k : Nat} (hM : k ≤ M) : ∀ (d i : Nat), i + d = M → TabM.sealedF (tabOf M k false).rows (List.range (min i k)) i ((tabOf M k false).rows.drop i) = List.range k
  | 0, i, h => by
    rw [List.drop_of_length_le (by rw [tab_len]; omega), Nat.min_eq_right (by omega)]; rfl
  | d + 1, i, h => by
    have hi : i < (tabOf M k false).rows.length := by rw [tab_len]; omega
    rw [List.drop_eq_getElem_cons hi]
    have e : (tabOf M k false).rows[i] = rowAt k false i := by
      have := tab_at (M := M) (k := k) (op := false) (i := i) (by omega)
      rw [TabM.at_lt hi] at this; exact this
    unfold TabM.sealedF
    rw [e]
    have hn : (if (rowAt k false i).kind = 2 then TabM.ins (tabOf M k false).rows (List.range (min i k)) i else List.range (min i k)) = List.range (min (i + 1) k) := by
      by_cases hik : i < k
      · have hk2 : (rowAt k false i).kind = 2 := by unfold rowAt; rw [if_pos hik]; simp
        rw [if_pos hk2]
        unfold TabM.ins
        rw [ahead_all, List.take_of_length_le (Nat.le_refl _), List.drop_of_length_le (Nat.le_refl _), Nat.min_eq_left (by omega), Nat.min_eq_left (by omega), List.range_succ]
        intro x hx
        have hx2 : x < i := by have := List.mem_range.1 hx; omega
        rw [tab_at (by omega), tab_at (by omega)]
        rw [rowAt_seq (by omega), rowAt_seq (by omega)]; omega
      · have hk2 : ¬ (rowAt k false i).kind = 2 := by unfold rowAt; rw [if_neg hik]; decide
        rw [if_neg hk2, Nat.min_eq_right (by omega), Nat.min_eq_right (by omega)]
    rw [hn]
    exact sealedF_range hM d (i + 1) (by omega)
theorem tab_sealed {M k : Nat} (hM : k ≤ M) : TabM.sealedL (tabOf M k false) = List.range k := by
  have := sealedF_range hM M 0 (by omega)
  rw [Nat.zero_min, List.drop_zero] at this
  exact this
end Go.LogM
end
section
namespace Go.LogM
open FlaM (FS)
structure LG where
  fs : FS
  tb : TabM.T
  a : Nat
def zP : Plc := ⟨0, 0, 0⟩
def closeL (σ : LG) : LG × Nat :=
  match TabM.cur σ.tb with
  | none => (σ, 0)
  | some _ => if (FlaM.barrier σ.fs).2 = 0 then (⟨(FlaM.barrier σ.fs).1, (TabM.sealT σ.tb).1, σ.a⟩, 0) else (⟨(FlaM.barrier σ.fs).1, σ.tb, σ.a⟩, (FlaM.barrier σ.fs).2)
def headL (g seq : Nat) (s : FS) : (FS × Nat) × Nat :=
  if (FlaM.erase s (g : Int)).2 ≠ 0 then (((FlaM.erase s (g : Int)).1, s.pp), (FlaM.erase s (g : Int)).2) else
  if (FlaM.barrier (FlaM.erase s (g : Int)).1).2 ≠ 0 then (((FlaM.barrier (FlaM.erase s (g : Int)).1).1, s.pp), (FlaM.barrier (FlaM.erase s (g : Int)).1).2) else
  if (FlaM.progF (FlaM.barrier (FlaM.erase s (g : Int)).1).1 (g : Int) ((0 : Nat) : Int) (hdr seq)).2 ≠ 0 then (((FlaM.progF (FlaM.barrier (FlaM.erase s (g : Int)).1).1 (g : Int) ((0 : Nat) : Int) (hdr seq)).1, s.pp), (FlaM.progF (FlaM.barrier (FlaM.erase s (g : Int)).1).1 (g : Int) ((0 : Nat) : Int) (hdr seq)).2) else
  (((FlaM.progF (FlaM.barrier (FlaM.erase s (g : Int)).1).1 (g : Int) ((0 : Nat) : Int) (hdr seq)).1, 1), 0)
def openL (fr : Nat) (σ : LG) : LG × Nat :=
  if (TabM.openT σ.tb).2.2.2 ≠ 0 then (⟨σ.fs, (TabM.openT σ.tb).1, σ.a⟩, (TabM.openT σ.tb).2.2.2) else
  (⟨(headL (fr + (TabM.openT σ.tb).2.1) (TabM.openT σ.tb).2.2.1 σ.fs).1.1, (TabM.openT σ.tb).1, (headL (fr + (TabM.openT σ.tb).2.1) (TabM.openT σ.tb).2.2.1 σ.fs).1.2⟩, (headL (fr + (TabM.openT σ.tb).2.1) (TabM.openT σ.tb).2.2.1 σ.fs).2)
def progsL (g : Nat) : FS → Nat → List Bs → (FS × Nat) × Nat
  | s, a, [] => ((s, a), 0)
  | s, a, b :: r => if (FlaM.progF s (g : Int) (a : Int) b).2 = 0 then progsL g (FlaM.progF s (g : Int) (a : Int) b).1 (a + 1) r else (((FlaM.progF s (g : Int) (a : Int) b).1, a), (FlaM.progF s (g : Int) (a : Int) b).2)
def roomL (σ : LG) (m : Nat) : LG × Nat := if (TabM.cur σ.tb).isSome = true ∧ σ.fs.pp < σ.a + m then closeL σ else (σ, 0)
def needL (fr : Nat) (σ : LG) : LG × Nat := if (TabM.cur σ.tb).isSome = true then (σ, 0) else openL fr σ
def putL (fr : Nat) (σ : LG) (ps : List Bs) : LG × (Plc × Nat) :=
  if (progsL (fr + (TabM.cur σ.tb).getD 0) σ.fs σ.a ps).2 ≠ 0 then (⟨(progsL (fr + (TabM.cur σ.tb).getD 0) σ.fs σ.a ps).1.1, σ.tb, (progsL (fr + (TabM.cur σ.tb).getD 0) σ.fs σ.a ps).1.2⟩, (zP, (progsL (fr + (TabM.cur σ.tb).getD 0) σ.fs σ.a ps).2))
  else (⟨(progsL (fr + (TabM.cur σ.tb).getD 0) σ.fs σ.a ps).1.1, σ.tb, (progsL (fr + (TabM.cur σ.tb).getD 0) σ.fs σ.a ps).1.2⟩, (⟨((TabM.cur σ.tb).getD 0 : Nat), σ.a, ps.length⟩, 0))
def appendL (fr : Nat) (σ : LG) (n : RecM.Nte) : LG × (Plc × Nat) :=
  if RecM.right n = false then (σ, (zP, 1)) else
  if σ.fs.pp < 1 + (notePages n).length then (σ, (zP, 4)) else
  if (roomL σ (notePages n).length).2 ≠ 0 then ((roomL σ (notePages n).length).1, (zP, (roomL σ (notePages n).length).2)) else
  if (needL fr (roomL σ (notePages n).length).1).2 ≠ 0 then ((needL fr (roomL σ (notePages n).length).1).1, (zP, (needL fr (roomL σ (notePages n).length).1).2)) else
  putL fr (needL fr (roomL σ (notePages n).length).1).1 (notePages n)
def full (k : Nat) (hd : Bool) (ex : List Bs) (Ns : Nat → List RecM.Nte) (j : Nat) : List Bs :=
  if j + 1 = k ∧ hd = false then [] else hdr (j + 1) :: ((Ns j).flatMap notePages ++ (if j + 1 = k then ex else []))
structure Inv (fr M : Nat) (σ : LG) (k : Nat) (op hd : Bool) (Ns : Nat → List RecM.Nte) (ex : List Bs) (F : Nat → List Bs) (X : List Bs) (er : Bool) : Prop where
  tb : σ.tb = tabOf M k op
  km : k ≤ M
  phy : Phy σ.fs fr M F (k - 1) X er
  new : ∀ j, k ≤ j → F j = [] ∧ Ns j = []
  all : ∀ j, j < k → onSeg F (k - 1) X j = full k hd ex Ns j
  opn : op = true → 0 < k
  at_ : op = true → σ.a = if hd = true then (onSeg F (k - 1) X (k - 1)).length else σ.fs.pp
  shut : op = false → X = [] ∧ er = false ∧ hd = true ∧ ex = []
  bad : hd = false → Ns (k - 1) = [] ∧ ex = [] ∧ σ.fs.off = true
  torn : ex = [] ∨ (σ.fs.off = true ∧ ∃ n c, c < (notePages n).length ∧ ex = (notePages n).take c)
  er0 : er = true → hd = false
  good : ∀ j, ∀ n ∈ Ns j, Good n
  pp : 2 ≤ σ.fs.pp
theorem Phy.move {s : FS} {fr M : Nat} {F : Nat → List Bs} {g g' : Nat} (h : Phy s fr M F g [] false) (hg : g' < M) : Phy s fr M F g' [] false :=
  ⟨h.len, h.rows, h.log, fun h => (by cases h), .inr ⟨rfl, rfl⟩, h.room, h.room g' hg, h.pages⟩
section
variable {fr M : Nat} {σ : LG} {k : Nat} {op hd : Bool} {Ns : Nat → List RecM.Nte} {ex : List Bs} {F : Nat → List Bs} {X : List Bs} {er : Bool} {N : Nat}
theorem onSeg_nil (F : Nat → List Bs) (g : Nat) : onSeg F g [] = F := by
  funext j
  unfold onSeg
  split
  · rw [List.append_nil]
  · rfl
theorem onSeg_twice (F : Nat → List Bs) (g : Nat) (X : List Bs) (j : Nat) : onSeg (onSeg F g X) g [] j = onSeg F g X j := by rw [onSeg_nil]
theorem phy_fresh (fr M pp : Nat) : Phy (FlaM.fresh (fr + M) pp) fr M (fun _ => []) 0 [] false := by
  refine ⟨by simp [FlaM.fresh], ?_, rfl, fun h => (by cases h), .inr ⟨rfl, rfl⟩, fun _ _ => Nat.zero_le _, Nat.zero_le _, ⟨fun _ p hp => (by cases hp), fun p hp => (by cases hp)⟩⟩
  intro j hj i hi
  show ((List.replicate (fr + M) (List.replicate pp FlaM.blank)).getD (fr + j) []).getD i [] = FlaM.blank
  have hi' : i < pp := hi
  rw [List.getD_eq_getElem?_getD (l := List.replicate (fr + M) (List.replicate pp FlaM.blank)), List.getElem?_replicate, if_pos (by omega), Option.getD_some, List.getD_eq_getElem?_getD, List.getElem?_replicate, if_pos hi']
  rfl
theorem inv_fresh (fr M pp : Nat) (h2 : 2 ≤ pp) : Inv fr M ⟨FlaM.fresh (fr + M) pp, TabM.fresh M, pp⟩ 0 false true (fun _ => []) [] (fun _ => []) [] false :=
  ⟨tab_fresh M, Nat.zero_le _, phy_fresh fr M pp, fun _ _ => ⟨rfl, rfl⟩, fun j hj => absurd hj (Nat.not_lt_zero _), fun h => (by cases h), fun h => (by cases h), fun _ => ⟨rfl, rfl, rfl, rfl⟩, fun h => (by cases h), .inl rfl, fun h => (by cases h), fun _ n hn => (by cases hn), h2⟩
theorem full_ex {j : Nat} : full k true [] Ns j = hdr (j + 1) :: (Ns j).flatMap notePages := by
  unfold full
  rw [if_neg (by simp)]
  simp
theorem inv_close (h : Inv fr M σ k op hd Ns ex F X er) (ok : FlaM.Ok σ.fs N) :
    (closeL σ).1.fs.pp = σ.fs.pp ∧ (((closeL σ).2 = 0 ∧ Inv fr M (closeL σ).1 k false true Ns [] (onSeg F (k - 1) X) [] false ∧ hd = true ∧ ex = []) ∨ ((closeL σ).2 = 6 ∧ (closeL σ).1.fs.off = true ∧ op = true ∧ Inv fr M (closeL σ).1 k op hd Ns ex F X er)) ∧ (Live σ.fs → (closeL σ).2 = 0 ∧ Live (closeL σ).1.fs) ∧ FlaM.Ok (closeL σ).1.fs (N + 1) := by
  cases op
  · obtain ⟨hX, he, hh, hx⟩ := h.shut rfl
    subst hX hh hx he
    have e : closeL σ = (σ, 0) := by unfold closeL; rw [h.tb, tab_nocur]
    rw [e, onSeg_nil]
    exact ⟨rfl, .inl ⟨rfl, h, rfl, rfl⟩, fun hl => ⟨rfl, hl⟩, ok.more (Nat.le_succ _)⟩
  · have hk := h.opn rfl
    have hc : TabM.cur σ.tb = some (k - 1) := by rw [h.tb]; exact tab_cur hk h.km
    have D := h.phy.barrier ok
    have okb := FlaM.ok_barrier ok
    have hpp := D.pp
    by_cases hb : (FlaM.barrier σ.fs).2 = 0
    · have e : closeL σ = (⟨(FlaM.barrier σ.fs).1, (TabM.sealT σ.tb).1, σ.a⟩, 0) := by unfold closeL; rw [hc]; simp only; rw [if_pos hb]
      rw [e]
      have hoff : σ.fs.off ≠ true := fun ho => by have := D.dead ho; omega
      have hhd : hd = true := by
        cases hd
        · exact absurd (h.bad rfl).2.2 hoff
        · rfl
      have hex : ex = [] := by
        rcases h.torn with h1 | ⟨h1, _⟩
        · exact h1
        · exact absurd h1 hoff
      subst hhd hex
      have hphy : Phy (FlaM.barrier σ.fs).1 fr M (onSeg F (k - 1) X) (k - 1) [] false := by
        rcases D.or with ⟨_, hp⟩ | ⟨h6, _⟩
        · exact hp
        · omega
      refine ⟨hpp, .inl ⟨rfl, ?_, rfl, rfl⟩, fun hl => ⟨rfl, (D.live hl).2⟩, okb⟩
      refine ⟨?_, h.km, hphy, ?_, ?_, fun h => (by cases h), fun h => (by cases h), fun _ => ⟨rfl, rfl, rfl, rfl⟩, fun h => (by cases h), .inl rfl, fun h => (by cases h), h.good, ?_⟩
      · show (TabM.sealT σ.tb).1 = _
        rw [h.tb, tab_seal hk h.km]
      · intro j hj
        refine ⟨?_, (h.new j hj).2⟩
        unfold onSeg
        rw [if_neg (by omega)]
        exact (h.new j hj).1
      · intro j hj
        rw [onSeg_twice]
        exact h.all j hj
      · show 2 ≤ (FlaM.barrier σ.fs).1.pp
        rw [hpp]; exact h.pp
    · have e : closeL σ = (⟨(FlaM.barrier σ.fs).1, σ.tb, σ.a⟩, (FlaM.barrier σ.fs).2) := by unfold closeL; rw [hc]; simp only; rw [if_neg hb]
      rw [e]
      obtain ⟨h6, hof, hp⟩ : (FlaM.barrier σ.fs).2 = 6 ∧ (FlaM.barrier σ.fs).1.off = true ∧ Phy (FlaM.barrier σ.fs).1 fr M F (k - 1) X er := by
        rcases D.or with ⟨h0, _⟩ | hh
        · exact absurd h0 hb
        · exact hh
      refine ⟨hpp, .inr ⟨h6, hof, rfl, ?_⟩, fun hl => absurd (D.live hl).1 hb, okb⟩
      exact ⟨h.tb, h.km, hp, h.new, h.all, h.opn, fun ho => (h.at_ ho).trans (by show _ = if hd = true then _ else (FlaM.barrier σ.fs).1.pp; rw [hpp]), h.shut, fun hh => ⟨(h.bad hh).1, (h.bad hh).2.1, hof⟩, h.torn.imp id (fun ⟨_, hx⟩ => ⟨hof, hx⟩), h.er0, h.good, by show 2 ≤ (FlaM.barrier σ.fs).1.pp; rw [hpp]; exact h.pp⟩
theorem head_phy {s : FS} (h : Phy s fr M F k [] false) (ok : FlaM.Ok s N) (hk : k < M) (hF : F k = []) (seq : Nat) (hpp : 1 ≤ s.pp) :
    (headL (fr + k) seq s).1.1.pp = s.pp ∧ (((headL (fr + k) seq s).2 = 0 ∧ (headL (fr + k) seq s).1.2 = 1 ∧ Phy (headL (fr + k) seq s).1.1 fr M F k [hdr seq] false) ∨ ((headL (fr + k) seq s).2 = 6 ∧ (headL (fr + k) seq s).1.2 = s.pp ∧ (headL (fr + k) seq s).1.1.off = true ∧ ∃ er', Phy (headL (fr + k) seq s).1.1 fr M F k [] er')) ∧ (Live s → (headL (fr + k) seq s).2 = 0 ∧ Live (headL (fr + k) seq s).1.1) ∧ FlaM.Ok (headL (fr + k) seq s).1.1 (N + 3) := by
  have D1 := h.erase ok rfl rfl k hk hF
  have ok1 := FlaM.ok_erase ok ((fr + k : Nat) : Int)
  generalize hr1 : FlaM.erase s ((fr + k : Nat) : Int) = r1 at D1 ok1
  by_cases h1 : r1.2 ≠ 0
  · have e : headL (fr + k) seq s = ((r1.1, s.pp), r1.2) := by unfold headL; rw [hr1, if_pos h1]
    rw [e]
    obtain ⟨h6, hof, hp⟩ : r1.2 = 6 ∧ r1.1.off = true ∧ Phy r1.1 fr M F k [] false := by
      rcases D1.or with ⟨h0, _⟩ | hh
      · exact absurd h0 h1
      · exact hh
    exact ⟨D1.pp, .inr ⟨h6, rfl, hof, false, hp⟩, fun hl => absurd (D1.live hl).1 h1, ok1.more (by omega)⟩
  have h1' : r1.2 = 0 := by omega
  have hp1 : Phy r1.1 fr M F k [] true := by
    rcases D1.or with ⟨_, hp⟩ | ⟨h6, _⟩
    · exact hp
    · omega
  have D2 := hp1.barrier ok1
  have ok2 := FlaM.ok_barrier ok1
  rw [onSeg_nil] at D2
  generalize hr2 : FlaM.barrier r1.1 = r2 at D2 ok2
  by_cases h2 : r2.2 ≠ 0
  · have e : headL (fr + k) seq s = ((r2.1, s.pp), r2.2) := by unfold headL; rw [hr1, if_neg h1, hr2, if_pos h2]
    rw [e]
    obtain ⟨h6, hof, hp⟩ : r2.2 = 6 ∧ r2.1.off = true ∧ Phy r2.1 fr M F k [] true := by
      rcases D2.or with ⟨h0, _⟩ | hh
      · exact absurd h0 h2
      · exact hh
    exact ⟨D2.pp.trans D1.pp, .inr ⟨h6, rfl, hof, true, hp⟩, fun hl => absurd (D2.live (D1.live hl).2).1 h2, ok2.more (by omega)⟩
  have h2' : r2.2 = 0 := by omega
  have hp2 : Phy r2.1 fr M F k [] false := by
    rcases D2.or with ⟨_, hp⟩ | ⟨h6, _⟩
    · exact hp
    · omega
  have D3 := hp2.prog ok2 (hdr seq) (hdr_len seq) hk rfl 0 (by rw [hF]; rfl) (by rw [D2.pp, D1.pp]; exact hpp)
  have ok3 := FlaM.ok_program ok2 ((fr + k : Nat) : Int) ((0 : Nat) : Int) (hdr seq)
  generalize hr3 : FlaM.progF r2.1 ((fr + k : Nat) : Int) ((0 : Nat) : Int) (hdr seq) = r3 at D3 ok3
  by_cases h3 : r3.2 ≠ 0
  · have e : headL (fr + k) seq s = ((r3.1, s.pp), r3.2) := by unfold headL; rw [hr1, if_neg h1, hr2, if_neg h2, hr3, if_pos h3]
    rw [e]
    obtain ⟨h6, hof, hp⟩ : r3.2 = 6 ∧ r3.1.off = true ∧ Phy r3.1 fr M F k [] false := by
      rcases D3.or with ⟨h0, _⟩ | hh
      · exact absurd h0 h3
      · exact hh
    exact ⟨D3.pp.trans (D2.pp.trans D1.pp), .inr ⟨h6, rfl, hof, false, hp⟩, fun hl => absurd (D3.live (D2.live (D1.live hl).2).2).1 h3, ok3⟩
  · have h3' : r3.2 = 0 := by omega
    have e : headL (fr + k) seq s = ((r3.1, 1), 0) := by unfold headL; rw [hr1, if_neg h1, hr2, if_neg h2, hr3, if_neg h3]
    rw [e]
    have hp3 : Phy r3.1 fr M F k [hdr seq] false := by
      rcases D3.or with ⟨_, hp⟩ | ⟨h6, _⟩
      · exact hp
      · omega
    exact ⟨D3.pp.trans (D2.pp.trans D1.pp), .inl ⟨rfl, rfl, hp3⟩, fun hl => ⟨rfl, (D3.live (D2.live (D1.live hl).2).2).2⟩, ok3⟩
theorem inv_open (h : Inv fr M σ k false hd Ns ex F X er) (ok : FlaM.Ok σ.fs N) (hk : k < M) :
    (openL fr σ).1.fs.pp = σ.fs.pp ∧ (((openL fr σ).2 = 0 ∧ Inv fr M (openL fr σ).1 (k + 1) true true Ns [] F [hdr (k + 1)] false) ∨ ((openL fr σ).2 = 6 ∧ (openL fr σ).1.fs.off = true ∧ ∃ er', Inv fr M (openL fr σ).1 (k + 1) true false Ns [] F [] er')) ∧ (Live σ.fs → (openL fr σ).2 = 0 ∧ Live (openL fr σ).1.fs) ∧ FlaM.Ok (openL fr σ).1.fs (N + 3) := by
  obtain ⟨hX, he, hh, hx⟩ := h.shut rfl
  subst hX hh hx he
  have hF : F k = [] := (h.new k (Nat.le_refl _)).1
  have hNk : Ns k = [] := (h.new k (Nat.le_refl _)).2
  have H := head_phy (h.phy.move hk) ok hk hF (k + 1) (by have := h.pp; omega)
  have e : openL fr σ = (⟨(headL (fr + k) (k + 1) σ.fs).1.1, tabOf M (k + 1) true, (headL (fr + k) (k + 1) σ.fs).1.2⟩, (headL (fr + k) (k + 1) σ.fs).2) := by
    unfold openL
    rw [h.tb, tab_open hk, if_neg (by simp)]
  rw [e]
  generalize headL (fr + k) (k + 1) σ.fs = r at H
  obtain ⟨hpp, hor, hlive, hok⟩ := H
  have hold : ∀ (X' : List Bs) (hd' : Bool) (j : Nat), j < k → onSeg F k X' j = full (k + 1) hd' [] Ns j := by
    intro X' hd' j hj
    have h1 := h.all j hj
    rw [onSeg_nil, full_ex] at h1
    unfold onSeg full
    rw [if_neg (by omega), if_neg (by omega), h1]
    simp
  refine ⟨hpp, ?_, hlive, hok⟩
  rcases hor with ⟨h0, h1, hp⟩ | ⟨h6, h1, hof, er', hp⟩
  · refine .inl ⟨h0, rfl, hk, hp, fun j hj => h.new j (by omega), ?_, fun _ => Nat.succ_pos _, fun _ => ?_, fun h => (by cases h), fun h => (by cases h), .inl rfl, fun h => (by cases h), h.good, by show 2 ≤ r.1.1.pp; rw [hpp]; exact h.pp⟩
    · intro j hj
      rw [Nat.add_sub_cancel]
      by_cases hjk : j = k
      · subst hjk
        rw [full_ex, hNk]
        unfold onSeg
        rw [if_pos rfl, hF]
        rfl
      · exact hold _ _ j (by omega)
    · show r.1.2 = _
      rw [h1, if_pos rfl, Nat.add_sub_cancel]
      unfold onSeg
      rw [if_pos rfl, hF]
      rfl
  · refine .inr ⟨h6, hof, er', rfl, hk, hp, fun j hj => h.new j (by omega), ?_, fun _ => Nat.succ_pos _, fun _ => ?_, fun h => (by cases h), fun _ => ⟨by rw [Nat.add_sub_cancel]; exact hNk, rfl, hof⟩, .inl rfl, fun _ => rfl, h.good, by show 2 ≤ r.1.1.pp; rw [hpp]; exact h.pp⟩
    · intro j hj
      rw [Nat.add_sub_cancel]
      by_cases hjk : j = k
      · subst hjk
        unfold onSeg full
        rw [if_pos rfl, hF, if_pos ⟨rfl, rfl⟩]
        rfl
      · exact hold _ _ j (by omega)
    · show r.1.2 = _
      rw [h1]
      exact hpp.symm
theorem progs_phy (g : Nat) (hg : g < M) : ∀ (ps : List Bs) (a : Nat) (s : FS) (X : List Bs) (N : Nat), Phy s fr M F g X false → FlaM.Ok s N → a = (F g).length + X.length → a + ps.length ≤ s.pp → (∀ p ∈ ps, p.length = 128) →
    (progsL (fr + g) s a ps).1.1.pp = s.pp ∧ (((progsL (fr + g) s a ps).2 = 0 ∧ (ps = [] ∨ s.off ≠ true) ∧ (progsL (fr + g) s a ps).1.2 = a + ps.length ∧ Phy (progsL (fr + g) s a ps).1.1 fr M F g (X ++ ps) false) ∨ ((progsL (fr + g) s a ps).2 = 6 ∧ (progsL (fr + g) s a ps).1.1.off = true ∧ ∃ c, c < ps.length ∧ (s.off = true → c = 0) ∧ (progsL (fr + g) s a ps).1.2 = a + c ∧ Phy (progsL (fr + g) s a ps).1.1 fr M F g (X ++ ps.take c) false)) ∧ (Live s → (progsL (fr + g) s a ps).2 = 0 ∧ Live (progsL (fr + g) s a ps).1.1) ∧ FlaM.Ok (progsL (fr + g) s a ps).1.1 (N + ps.length)
  | [], a, s, X, N, h, ok, _, _, _ => by
    refine ⟨rfl, .inl ⟨rfl, .inl rfl, rfl, ?_⟩, fun hl => ⟨rfl, hl⟩, ok⟩
    rw [List.append_nil]; exact h
  | b :: ps, a, s, X, N, h, ok, ha, hroom, hb => by
    simp only [List.length_cons] at hroom
    have D := h.prog ok b (hb b List.mem_cons_self) hg rfl a ha (by omega)
    have ok1 := FlaM.ok_program ok ((fr + g : Nat) : Int) (a : Int) b
    generalize hr : FlaM.progF s ((fr + g : Nat) : Int) (a : Int) b = r at D ok1
    by_cases h0 : r.2 = 0
    · have e : progsL (fr + g) s a (b :: ps) = progsL (fr + g) r.1 (a + 1) ps := by
        rw [progsL, hr, if_pos h0]
      have hp : Phy r.1 fr M F g (X ++ [b]) false := by
        rcases D.or with ⟨_, hp⟩ | ⟨h6, _⟩
        · exact hp
        · omega
      obtain ⟨q1, q2, q3, q4⟩ := progs_phy g hg ps (a + 1) r.1 (X ++ [b]) (N + 1) hp ok1 (by rw [List.length_append, List.length_singleton]; omega) (by rw [D.pp]; omega) (fun p hp => hb p (List.mem_cons_of_mem _ hp))
      rw [e]
      refine ⟨q1.trans D.pp, ?_, fun hl => q3 (D.live hl).2, q4.more (by simp only [List.length_cons]; omega)⟩
      rcases q2 with ⟨q5, _, q6, q7⟩ | ⟨q5, q6, c, q7, q8, q9, q10⟩
      · refine .inl ⟨q5, .inr (fun ho => by have := D.dead ho; omega), by rw [q6, List.length_cons]; omega, ?_⟩
        rw [List.append_assoc] at q7
        exact q7
      · refine .inr ⟨q5, q6, c + 1, by simp only [List.length_cons]; omega, fun ho => ?_, by rw [q9]; omega, ?_⟩
        · have := D.dead ho; omega
        · rw [List.append_assoc] at q10
          exact q10
    · have e : progsL (fr + g) s a (b :: ps) = ((r.1, a), r.2) := by
        rw [progsL, hr, if_neg h0]
      obtain ⟨h6, hof, hp⟩ : r.2 = 6 ∧ r.1.off = true ∧ Phy r.1 fr M F g X false := by
        rcases D.or with ⟨h00, _⟩ | hh
        · exact absurd h00 h0
        · exact hh
      rw [e]
      refine ⟨D.pp, .inr ⟨h6, hof, 0, by simp, fun _ => rfl, rfl, ?_⟩, fun hl => absurd (D.live hl).1 h0, ok1.more (by simp only [List.length_cons]; omega)⟩
      rw [List.take_zero, List.append_nil]; exact hp
end
end Go.LogM
end
section
namespace Go.LogM
open FlaM (FS)
def updN (Ns : Nat → List RecM.Nte) (j : Nat) (l : List RecM.Nte) : Nat → List RecM.Nte := fun i => if i = j then l else Ns i
def tot (Ns : Nat → List RecM.Nte) : Nat → Nat
  | 0 => 0
  | k + 1 => tot Ns k + (Ns k).length
theorem tot_upd (Ns : Nat → List RecM.Nte) (j : Nat) (l : List RecM.Nte) : ∀ k, k ≤ j → tot (updN Ns j l) k = tot Ns k
  | 0, _ => rfl
  | k + 1, h => by
    unfold tot
    rw [tot_upd Ns j l k (by omega)]
    unfold updN
    rw [if_neg (by omega)]
def Sf (cnt k : Nat) (Ns : Nat → List RecM.Nte) (F : Nat → List Bs) : Prop :=
  ∃ m, m ≤ (Ns (k - 1)).length ∧ cnt ≤ tot Ns (k - 1) + m ∧ (0 < m → ∃ F2, F (k - 1) = hdr (k - 1 + 1) :: ((Ns (k - 1)).take m).flatMap notePages ++ F2)
section
variable {fr M : Nat} {σ : LG} {k : Nat} {op hd : Bool} {Ns : Nat → List RecM.Nte} {ex : List Bs} {F : Nat → List Bs} {X : List Bs} {er : Bool} {N : Nat}
theorem Inv.zero (h : Inv fr M σ k op hd Ns ex F X er) (hk : k = 0) : ∀ j, Ns j = [] := fun j => (h.new j (by omega)).2
theorem tot_zero (h : ∀ j, Ns j = []) : ∀ k, tot Ns k = 0
  | 0 => rfl
  | k + 1 => by unfold tot; rw [tot_zero h k, h k]; rfl
theorem sf_more {cnt : Nat} {n : RecM.Nte} (h : Sf cnt k Ns F) : Sf cnt k (updN Ns (k - 1) (Ns (k - 1) ++ [n])) F := by
  obtain ⟨m, h1, h2, h3⟩ := h
  have e : updN Ns (k - 1) (Ns (k - 1) ++ [n]) (k - 1) = Ns (k - 1) ++ [n] := by unfold updN; rw [if_pos rfl]
  refine ⟨m, by rw [e, List.length_append]; omega, by rw [tot_upd _ _ _ _ (Nat.le_refl _)]; exact h2, fun hm => ?_⟩
  obtain ⟨F2, hF⟩ := h3 hm
  exact ⟨F2, by rw [e, List.take_append_of_le_length h1]; exact hF⟩
theorem sf_next {cnt : Nat} {F' : Nat → List Bs} (h : Sf cnt k Ns F) (hz : k = 0 → ∀ j, Ns j = []) : Sf cnt (k + 1) Ns F' := by
  obtain ⟨m, h1, h2, _⟩ := h
  refine ⟨0, Nat.zero_le _, ?_, fun h => absurd h (Nat.lt_irrefl _)⟩
  rw [Nat.add_sub_cancel]
  cases k with
  | zero =>
    have := hz rfl
    rw [this (0 - 1)] at h1
    rw [tot_zero this] at h2
    simp at h1
    omega
  | succ k =>
    rw [Nat.add_sub_cancel] at h1 h2
    unfold tot
    omega
theorem sf_front {cnt : Nat} {F' : Nat → List Bs} (h : Sf cnt k Ns F) (hF : ∃ F2, F' (k - 1) = F (k - 1) ++ F2) : Sf cnt k Ns F' := by
  obtain ⟨m, h1, h2, h3⟩ := h
  refine ⟨m, h1, h2, fun hm => ?_⟩
  obtain ⟨F2, e⟩ := h3 hm
  obtain ⟨F3, e3⟩ := hF
  exact ⟨F2 ++ F3, by rw [e3, e]; simp⟩
theorem full_len (h : Inv fr M σ k op hd Ns ex F X er) (hk : 0 < k) : (onSeg F (k - 1) X (k - 1)).length = (F (k - 1)).length + X.length := by
  unfold onSeg
  rw [if_pos rfl, List.length_append]
structure Put1 (fr M : Nat) (σ σ' : LG) (k : Nat) (Ns : Nat → List RecM.Nte) (n : RecM.Nte) (F : Nat → List Bs) (res : Plc × Nat) : Prop where
  pp : σ'.fs.pp = σ.fs.pp
  or : (res.2 = 0 ∧ res.1 = ⟨((k - 1 : Nat) : Int), ((1 + ((Ns (k - 1)).flatMap notePages).length : Nat) : Int), ((notePages n).length : Int)⟩ ∧ 1 + ((Ns (k - 1)).flatMap notePages).length + (notePages n).length ≤ σ.fs.pp ∧ ∃ X', Inv fr M σ' k true true (updN Ns (k - 1) (Ns (k - 1) ++ [n])) [] F X' false) ∨
    (res = (zP, 6) ∧ σ'.fs.off = true ∧ ∃ hd' ex' X' er', Inv fr M σ' k true hd' Ns ex' F X' er')
  live : Live σ.fs → res.2 = 0 ∧ Live σ'.fs
theorem inv_put (h : Inv fr M σ k true hd Ns ex F X er) (ok : FlaM.Ok σ.fs N) {n : RecM.Nte} (hn : Good n) (hroom : σ.a + (notePages n).length ≤ σ.fs.pp) :
    Put1 fr M σ (putL fr σ (notePages n)).1 k Ns n F (putL fr σ (notePages n)).2 ∧ FlaM.Ok (putL fr σ (notePages n)).1.fs (N + 3) := by
  have hk := h.opn rfl
  have hpos := notePages_pos n
  have hfew := notePages_few hn.fits hn.right
  have hc : (TabM.cur σ.tb).getD 0 = k - 1 := by rw [h.tb, tab_cur hk h.km]; rfl
  have ha := h.at_ rfl
  have hhd : hd = true := by
    cases hd
    · rw [if_neg (by simp)] at ha; omega
    · rfl
  subst hhd
  rw [if_pos rfl, full_len h hk] at ha
  have her : er = false := by
    cases er
    · rfl
    · exact absurd (h.er0 rfl) (by decide)
  subst her
  have H := progs_phy (k - 1) (by have := h.km; omega) (notePages n) σ.a σ.fs X N h.phy ok ha hroom (fun p hp => (notePages_page n p hp).2)
  have hall := h.all (k - 1) (by omega)
  have hkk : k - 1 + 1 = k := Nat.sub_add_cancel hk
  have hother : ∀ (X' : List Bs) (ex' : List Bs) (Ns' : Nat → List RecM.Nte) (j : Nat), j < k → j ≠ k - 1 → Ns' j = Ns j → onSeg F (k - 1) X' j = full k true ex' Ns' j := by
    intro X' ex' Ns' j hj hne hN
    have h1 := h.all j hj
    unfold onSeg full at h1 ⊢
    rw [if_neg hne] at h1 ⊢
    rw [if_neg (by simp)] at h1 ⊢
    rw [if_neg (by omega)] at h1 ⊢
    rw [h1, hN]
  unfold putL
  rw [hc]
  generalize progsL (fr + (k - 1)) σ.fs σ.a (notePages n) = r at H
  obtain ⟨q1, q2, q3, q4⟩ := H
  have hlen : (onSeg F (k - 1) X (k - 1)) = hdr (k - 1 + 1) :: ((Ns (k - 1)).flatMap notePages ++ ex) := by
    rw [hall]
    unfold full
    rw [if_neg (by simp), if_pos hkk]
  have hsame : ∀ {σ' : LG} {er' : Bool} (_ : σ'.tb = σ.tb) (_ : σ'.a = σ.a) (_ : σ'.fs.pp = σ.fs.pp) (_ : σ'.fs.off = true) (_ : Phy σ'.fs fr M F (k - 1) X false), Inv fr M σ' k true true Ns ex F X false := by
    intro σ' er' e1 e2 e3 e4 e5
    exact ⟨e1.trans h.tb, h.km, e5, h.new, h.all, h.opn, fun _ => by rw [e2, ha, if_pos rfl, full_len h hk], fun h => (by cases h), fun h => (by cases h), h.torn.imp id (fun ⟨_, hx⟩ => ⟨e4, hx⟩), fun h => (by cases h), h.good, by rw [e3]; exact h.pp⟩
  rcases q2 with ⟨q5, q6, q7, q8⟩ | ⟨q5, q6, c, q7, q8, q9, q10⟩
  · -- all of them
    have hoff : σ.fs.off ≠ true := by
      rcases q6 with h1 | h1
      · rw [h1] at hpos; exact absurd hpos (Nat.lt_irrefl 0)
      · exact h1
    have hex : ex = [] := by
      rcases h.torn with h1 | ⟨h1, _⟩
      · exact h1
      · exact absurd h1 hoff
    subst hex
    rw [List.append_nil] at hlen
    have hal : σ.a = 1 + ((Ns (k - 1)).flatMap notePages).length := by
      rw [ha, ← full_len h hk, hlen, List.length_cons, Nat.add_comm]
    rw [if_neg (by rw [q5]; simp)]
    refine ⟨⟨q1, .inl ⟨rfl, by rw [← hal], by rw [← hal]; exact hroom, X ++ notePages n, ?_⟩, fun hl => ⟨rfl, (q3 hl).2⟩⟩, q4.more (by omega)⟩
    refine ⟨h.tb, h.km, q8, ?_, ?_, h.opn, fun _ => ?_, fun h => (by cases h), fun h => (by cases h), .inl rfl, fun h => (by cases h), ?_, by show 2 ≤ r.1.1.pp; rw [q1]; exact h.pp⟩
    · intro j hj
      refine ⟨(h.new j hj).1, ?_⟩
      unfold updN
      rw [if_neg (by omega)]
      exact (h.new j hj).2
    · intro j hj
      by_cases hjk : j = k - 1
      · subst hjk
        rw [full_ex]
        unfold onSeg at hlen ⊢
        rw [if_pos rfl] at hlen ⊢
        rw [← List.append_assoc, hlen]
        unfold updN
        rw [if_pos rfl, List.flatMap_append]
        simp
      · refine hother _ _ _ j hj hjk ?_
        unfold updN
        rw [if_neg hjk]
    · show r.1.2 = _
      rw [q7, if_pos rfl, ha]
      unfold onSeg
      rw [if_pos rfl, List.length_append, List.length_append, Nat.add_assoc]
    · intro j m hm
      unfold updN at hm
      split at hm
      · rename_i hj
        rcases List.mem_append.1 hm with hm | hm
        · exact h.good _ m hm
        · rw [List.mem_singleton.1 hm]; exact hn
      · exact h.good j m hm
  · -- the power is off
    rw [if_pos (by rw [q5]; decide), q5]
    refine ⟨⟨q1, .inr ⟨rfl, q6, ?_⟩, fun hl => absurd (q3 hl).1 (by rw [q5]; decide)⟩, q4.more (by omega)⟩
    by_cases ho : σ.fs.off = true
    · have hc0 := q8 ho
      subst hc0
      rw [List.take_zero, List.append_nil] at q10
      exact ⟨true, ex, X, false, hsame (er' := false) rfl q9 q1 q6 q10⟩
    · have hex : ex = [] := by
        rcases h.torn with h1 | ⟨h1, _⟩
        · exact h1
        · exact absurd h1 ho
      subst hex
      rw [List.append_nil] at hlen
      refine ⟨true, (notePages n).take c, X ++ (notePages n).take c, false, h.tb, h.km, q10, h.new, ?_, h.opn, fun _ => ?_, fun h => (by cases h), fun h => (by cases h), .inr ⟨q6, n, c, q7, rfl⟩, fun h => (by cases h), h.good, by show 2 ≤ r.1.1.pp; rw [q1]; exact h.pp⟩
      · intro j hj
        by_cases hjk : j = k - 1
        · subst hjk
          unfold onSeg at hlen ⊢
          unfold full
          rw [if_pos rfl] at hlen ⊢
          rw [if_neg (by simp), if_pos hkk, ← List.append_assoc, hlen]
          rfl
        · exact hother _ _ _ j hj hjk rfl
      · show r.1.2 = _
        rw [q9, if_pos rfl, ha]
        unfold onSeg
        rw [if_pos rfl, List.length_append, List.length_append, List.length_take, Nat.min_eq_left (by omega), Nat.add_assoc]
end
end Go.LogM
end
section
namespace Go.LogM
open FlaM (FS)
section
variable {fr M : Nat} {σ : LG} {k : Nat} {op hd : Bool} {Ns : Nat → List RecM.Nte} {ex : List Bs} {F : Nat → List Bs} {X : List Bs} {er : Bool} {N : Nat}
structure Appd (fr M : Nat) (σ : LG) (op0 : Bool) (k : Nat) (Ns : Nat → List RecM.Nte) (F : Nat → List Bs) (n : RecM.Nte) (r : LG × (Plc × Nat)) (k' : Nat) (op' hd' : Bool) (Ns' : Nat → List RecM.Nte) (ex' : List Bs) (F' : Nat → List Bs) (X' : List Bs) (er' : Bool) : Prop where
  inv : Inv fr M r.1 k' op' hd' Ns' ex' F' X' er'
  pp : r.1.fs.pp = σ.fs.pp
  lo : k ≤ k'
  hi : k' ≤ k + 1
  sf : ∀ cnt, Sf cnt k Ns F → Sf cnt k' Ns' F'
  live : Live σ.fs → r.2.2 = 0 ∧ Live r.1.fs
  kx : Live σ.fs → k' = if op0 = true ∧ σ.a + (notePages n).length ≤ σ.fs.pp then k else k + 1
  or : (r.2.2 = 0 ∧ op' = true ∧ hd' = true ∧ ex' = [] ∧ Ns' = updN Ns (k' - 1) (Ns (k' - 1) ++ [n]) ∧ r.2.1 = ⟨((k' - 1 : Nat) : Int), ((1 + ((Ns (k' - 1)).flatMap notePages).length : Nat) : Int), ((notePages n).length : Int)⟩ ∧ 1 + ((Ns (k' - 1)).flatMap notePages).length + (notePages n).length ≤ σ.fs.pp) ∨
    (r.2 = (zP, 6) ∧ r.1.fs.off = true ∧ Ns' = Ns)
def openPut (fr : Nat) (σ : LG) (n : RecM.Nte) : LG × (Plc × Nat) :=
  if (openL fr σ).2 ≠ 0 then ((openL fr σ).1, (zP, (openL fr σ).2)) else putL fr (openL fr σ).1 (notePages n)
theorem inv_openPut (h : Inv fr M σ k false hd Ns ex F X er) (ok : FlaM.Ok σ.fs N) {n : RecM.Nte} (hn : Good n) (hk : k < M) (hfit : 1 + (notePages n).length ≤ σ.fs.pp) :
    (∃ k' op' hd' Ns' ex' F' X' er', Appd fr M σ false k Ns F n (openPut fr σ n) k' op' hd' Ns' ex' F' X' er') ∧ FlaM.Ok (openPut fr σ n).1.fs (N + 6) := by
  obtain ⟨p1, p2, p3, p4⟩ := inv_open h ok hk
  have hpp := h.pp
  have hz : k = 0 → ∀ j, Ns j = [] := h.zero
  unfold openPut
  generalize openL fr σ = o at p1 p2 p3 p4
  rcases p2 with ⟨h0, hi⟩ | ⟨h6, hof, er', hi⟩
  · rw [if_neg (by rw [h0]; simp)]
    have ha : o.1.a = 1 := by
      have := hi.at_ rfl
      rw [if_pos rfl, full_len hi (Nat.succ_pos _)] at this
      rw [this, Nat.add_sub_cancel, (h.new k (Nat.le_refl _)).1]
      rfl
    obtain ⟨q, qok⟩ := inv_put hi p4 hn (by rw [ha, p1]; exact hfit)
    generalize putL fr o.1 (notePages n) = r at q qok
    refine ⟨?_, qok⟩
    have hsf : ∀ cnt, Sf cnt k Ns F → Sf cnt (k + 1) Ns F := fun cnt hc => sf_next hc hz
    rcases q.or with ⟨r0, r1, r2, X', hI⟩ | ⟨r1, r2, hd', ex', X', er', hI⟩
    · refine ⟨k + 1, true, true, _, [], F, X', false, hI, q.pp.trans p1, Nat.le_succ _, Nat.le_refl _, fun cnt hc => sf_more (hsf cnt hc), fun hl => q.live (p3 hl).2, fun _ => by simp, .inl ⟨r0, rfl, rfl, rfl, rfl, r1, ?_⟩⟩
      rw [p1] at r2
      exact r2
    · exact ⟨k + 1, true, hd', Ns, ex', F, X', er', hI, q.pp.trans p1, Nat.le_succ _, Nat.le_refl _, hsf, fun hl => q.live (p3 hl).2, fun _ => by simp, .inr ⟨r1, r2, rfl⟩⟩
  · rw [if_pos (by rw [h6]; decide)]
    refine ⟨⟨k + 1, true, false, Ns, [], F, [], er', hi, p1, Nat.le_succ _, Nat.le_refl _, fun cnt hc => sf_next hc hz, fun hl => absurd (p3 hl).1 (by rw [h6]; decide), fun _ => by simp, .inr ⟨by rw [h6], hof, rfl⟩⟩, p4.more (by omega)⟩
theorem cur_some (h : Inv fr M σ k op hd Ns ex F X er) : (TabM.cur σ.tb).isSome = op := by
  rw [h.tb]
  cases op
  · rw [tab_nocur]; rfl
  · rw [tab_cur (h.opn rfl) h.km]; rfl
theorem inv_append (h : Inv fr M σ k op hd Ns ex F X er) (ok : FlaM.Ok σ.fs N) {n : RecM.Nte} (hn : Good n) (hk : k < M) (hfit : 1 + (notePages n).length ≤ σ.fs.pp) :
    (∃ k' op' hd' Ns' ex' F' X' er', Appd fr M σ op k Ns F n (appendL fr σ n) k' op' hd' Ns' ex' F' X' er') ∧ FlaM.Ok (appendL fr σ n).1.fs (N + 7) := by
  have hcur := cur_some h
  have e0 : appendL fr σ n = if (roomL σ (notePages n).length).2 ≠ 0 then ((roomL σ (notePages n).length).1, (zP, (roomL σ (notePages n).length).2)) else
      if (needL fr (roomL σ (notePages n).length).1).2 ≠ 0 then ((needL fr (roomL σ (notePages n).length).1).1, (zP, (needL fr (roomL σ (notePages n).length).1).2)) else
      putL fr (needL fr (roomL σ (notePages n).length).1).1 (notePages n) := by
    unfold appendL
    rw [if_neg (by rw [hn.right]; decide), if_neg (by omega)]
  rw [e0]
  cases op
  · have e1 : roomL σ (notePages n).length = (σ, 0) := by unfold roomL; rw [hcur, if_neg (by simp)]
    have e2 : needL fr σ = openL fr σ := by unfold needL; rw [hcur, if_neg (by decide)]
    rw [e1, if_neg (by simp)]
    simp only
    rw [e2]
    obtain ⟨q, qok⟩ := inv_openPut h ok hn hk hfit
    unfold openPut at q qok
    exact ⟨q, qok.more (by omega)⟩
  · by_cases hr : σ.fs.pp < σ.a + (notePages n).length
    · have e1 : roomL σ (notePages n).length = closeL σ := by unfold roomL; rw [hcur, if_pos ⟨rfl, hr⟩]
      rw [e1]
      obtain ⟨c1, c2, c3, c4⟩ := inv_close h ok
      generalize closeL σ = c at c1 c2 c3 c4
      rcases c2 with ⟨h0, hI, hhd, hex⟩ | ⟨h6, hof, _, hI⟩
      · have hcur2 := cur_some hI
        have e2 : needL fr c.1 = openL fr c.1 := by unfold needL; rw [hcur2, if_neg (by decide)]
        rw [if_neg (by rw [h0]; simp), e2]
        obtain ⟨⟨k', op', hd', Ns', ex', F', X', er', q⟩, qok⟩ := inv_openPut hI c4 hn hk (by rw [c1]; exact hfit)
        unfold openPut at q qok
        refine ⟨⟨k', op', hd', Ns', ex', F', X', er', q.inv, q.pp.trans c1, q.lo, q.hi, fun cnt hc => q.sf cnt (sf_front hc ?_), fun hl => q.live (c3 hl).2, fun hl => ?_, ?_⟩, qok.more (by omega)⟩
        · unfold onSeg
          rw [if_pos rfl]
          exact ⟨X, rfl⟩
        · rw [q.kx (c3 hl).2, if_neg (by simp), if_neg (fun hh => by have := hh.2; omega)]
        · have hq := q.or
          rw [c1] at hq
          exact hq
      · rw [if_pos (by rw [h6]; decide)]
        exact ⟨⟨k, true, hd, Ns, ex, F, X, er, hI, c1, Nat.le_refl _, Nat.le_succ _, fun _ hc => hc, fun hl => absurd (c3 hl).1 (by rw [h6]; decide), fun hl => absurd (c3 hl).1 (by rw [h6]; decide), .inr ⟨by rw [h6], hof, rfl⟩⟩, c4.more (by omega)⟩
    · have e1 : roomL σ (notePages n).length = (σ, 0) := by unfold roomL; rw [hcur, if_neg (fun hh => hr hh.2)]
      have e2 : needL fr σ = (σ, 0) := by unfold needL; rw [hcur, if_pos rfl]
      rw [e1, if_neg (by simp)]
      simp only
      rw [e2, if_neg (by simp)]
      simp only
      obtain ⟨q, qok⟩ := inv_put h ok hn (by omega)
      generalize putL fr σ (notePages n) = r at q qok
      refine ⟨?_, qok.more (by omega)⟩
      rcases q.or with ⟨r0, r1, r2, X', hI⟩ | ⟨r1, r2, hd', ex', X', er', hI⟩
      · exact ⟨k, true, true, _, [], F, X', false, hI, q.pp, Nat.le_refl _, Nat.le_succ _, fun cnt hc => sf_more hc, q.live, fun _ => by rw [if_pos ⟨rfl, by omega⟩], .inl ⟨r0, rfl, rfl, rfl, rfl, r1, r2⟩⟩
      · exact ⟨k, true, hd', Ns, ex', F, X', er', hI, q.pp, Nat.le_refl _, Nat.le_succ _, fun _ hc => hc, q.live, fun _ => by rw [if_pos ⟨rfl, by omega⟩], .inr ⟨r1, r2, rfl⟩⟩
theorem append_bad (fr : Nat) (σ : LG) {n : RecM.Nte} (h : RecM.right n = false) : appendL fr σ n = (σ, (zP, 1)) := by unfold appendL; rw [if_pos h]
end
end Go.LogM
end
section
namespace Go.LogM
open FlaM (FS)
def segPages (s : FS) (g : Nat) : List Bs := (List.range s.pp).map (fun i => FlaM.now s g i)
noncomputable def scanL (fr : Nat) (σ : LG) (seg page : Int) : (Nat × List Ent) × Nat :=
  if seg < 0 ∨ (σ.tb.rows.length : Int) ≤ seg ∨ page < 1 ∨ (σ.fs.pp : Int) < page then ((0, []), 1)
  else if σ.fs.off = true then ((0, []), 6)
  else if headSeq ((segPages σ.fs (fr + seg.toNat)).getD 0 []) = 0 then ((0, []), 0)
  else ((headSeq ((segPages σ.fs (fr + seg.toNat)).getD 0 []), scanF seg (σ.fs.pp + 1) page.toNat ((segPages σ.fs (fr + seg.toNat)).drop page.toNat)), 0)
theorem seg_len (s : FS) (g : Nat) : (segPages s g).length = s.pp := by simp [segPages]
theorem seg_at {s : FS} {g i : Nat} (h : i < s.pp) : (segPages s g).getD i [] = FlaM.now s g i := by
  unfold segPages
  rw [List.getD_eq_getElem?_getD, List.getElem?_map, List.getElem?_range h]; rfl
def padded (l : List Bs) (pp : Nat) : List Bs := l ++ List.replicate (pp - l.length) FlaM.blank
theorem padded_at {l : List Bs} {pp i : Nat} (hi : i < pp) : (padded l pp).getD i [] = l.getD i FlaM.blank := by
  unfold padded
  rw [getD_append]
  split
  · rename_i h
    rw [List.getD_eq_getElem?_getD, List.getD_eq_getElem?_getD, List.getElem?_eq_getElem h]; rfl
  · rename_i h
    rw [List.getD_eq_getElem?_getD, List.getElem?_replicate, if_pos (by omega), List.getD_eq_getElem?_getD, List.getElem?_eq_none (by omega)]; rfl
theorem padded_len {l : List Bs} {pp : Nat} (h : l.length ≤ pp) : (padded l pp).length = pp := by unfold padded; rw [List.length_append, List.length_replicate]; omega
theorem ext_get {A B : List Bs} (hl : A.length = B.length) (h : ∀ i, i < A.length → A.getD i [] = B.getD i []) : A = B := by
  apply List.ext_getElem hl
  intro i h1 h2
  have := h i h1
  rw [List.getD_eq_getElem?_getD, List.getD_eq_getElem?_getD, List.getElem?_eq_getElem h1, List.getElem?_eq_getElem h2] at this
  exact this
theorem tail_blank (n : Nat) : Tail (List.replicate n FlaM.blank) :=
  ⟨RecM.zeroN, 0, _, rfl, notePages_pos _, fun p hp => by rw [(List.mem_replicate.1 hp).2]; exact blank_page⟩
theorem flat_notes_len : ∀ (ns : List RecM.Nte), ns.length ≤ (ns.flatMap notePages).length
  | [] => Nat.le_refl _
  | n :: ns => by
    rw [List.flatMap_cons, List.length_append, List.length_cons]
    have := notePages_pos n
    have := flat_notes_len ns
    omega
section
variable {fr M : Nat} {σ : LG} {k : Nat} {op hd : Bool} {Ns : Nat → List RecM.Nte} {ex : List Bs} {F : Nat → List Bs} {X : List Bs} {er : Bool} {N : Nat}
theorem scan_on {tb : TabM.T} {s : FS} {a : Nat} (hM : tb.rows.length = M) (hpp : 1 ≤ s.pp) (hon : s.off = false) (j : Nat) (hj : j < M) :
    scanL fr ⟨s, tb, a⟩ (j : Int) 1 = if headSeq ((segPages s (fr + j)).getD 0 []) = 0 then ((0, []), 0) else ((headSeq ((segPages s (fr + j)).getD 0 []), scanF (j : Int) (s.pp + 1) 1 ((segPages s (fr + j)).drop 1)), 0) := by
  unfold scanL
  rw [if_neg (by simp only [hM]; omega), if_neg (by simp only [hon]; decide)]
  rfl
theorem scan_whole {Q : List Bs} {s : Nat} {ns : List RecM.Nte} {T : List Bs} (hs : s < 18446744073709551616) (hs0 : 0 < s) (hg : ∀ n ∈ ns, Good n) (hT : Tail T) (hQ : Q = hdr s :: (ns.flatMap notePages ++ T)) (seg : Int) (f : Nat) (hf : Q.length ≤ f) :
    headSeq (Q.getD 0 []) = s ∧ scanF seg f 1 (Q.drop 1) = ents seg 1 ns := by
  subst hQ
  refine ⟨headSeq_hdr s hs, ?_⟩
  have hlen := flat_notes_len ns
  simp only [List.length_cons, List.length_append] at hf
  obtain ⟨m, hm, e, hmax⟩ := scan_like seg T hT ns 1 f _ hg (like_refl _) (by omega)
  have hml : ns.length ≤ m := hmax ns.length T (Nat.le_refl _) (by rw [List.take_length])
  rw [List.drop_succ_cons, List.drop_zero, e, List.take_of_length_le (by omega)]
end
end Go.LogM
end
section
namespace Go.LogM
open FlaM (FS)
noncomputable def readL (fr : Nat) (σ : LG) (p : Plc) : RecM.Nte × Nat :=
  if p.seg < 0 ∨ (σ.tb.rows.length : Int) ≤ p.seg ∨ p.page < 1 ∨ p.pages < 1 ∨ (σ.fs.pp : Int) < p.page ∨ (σ.fs.pp : Int) - p.page < p.pages then (RecM.zeroN, 1)
  else if σ.fs.off = true then (RecM.zeroN, 6)
  else match note1 (((segPages σ.fs (fr + p.seg.toNat)).drop p.page.toNat).take p.pages.toNat) with
    | none => (RecM.zeroN, 120)
    | some (n, k) => if (k : Int) = p.pages then (n, 0) else (RecM.zeroN, 120)
def headN (σ : LG) : Nat × Nat :=
  match TabM.cur σ.tb with
  | none => (σ.tb.next, 1)
  | some i => if σ.a < σ.fs.pp then ((TabM.at_ σ.tb.rows i).seq, σ.a) else (σ.tb.next, 1)
structure LgOk (fr : Nat) (σ : LG) (N : Nat) : Prop where
  fs : FlaM.Ok σ.fs N
  tb : TabM.Ok σ.tb N
  room : fr + σ.tb.rows.length ≤ σ.fs.safe.length
  pp : 2 ≤ σ.fs.pp
  a : (TabM.cur σ.tb).isSome = true → 1 ≤ σ.a ∧ σ.a ≤ σ.fs.pp
  load : TabM.LoadOk σ.tb.rows σ.tb.next
theorem load_tab {M k : Nat} (op : Bool) (hM : M ≤ 256) : TabM.LoadOk (tabOf M k op).rows (tabOf M k op).next := by
  refine ⟨by rw [tab_len]; exact hM, Nat.succ_pos _, ?_, ?_, ?_, ?_⟩
  · intro s hs hk
    obtain ⟨i, hi, rfl⟩ := tab_mem hs
    unfold rowAt at hk ⊢
    split at hk
    · simp at hk; split at hk <;> cases hk
    · rename_i h; rw [if_neg h]; rfl
  · intro s hs hk
    obtain ⟨i, hi, rfl⟩ := tab_mem hs
    unfold rowAt at hk ⊢
    by_cases h : i < k
    · rw [if_pos h]
      refine ⟨?_, Nat.succ_pos _, by show i + 1 < k + 1; omega⟩
      show (if _ then 1 else 2) ≤ 2
      split <;> omega
    · rw [if_neg h] at hk; exact absurd rfl hk
  · intro i j hi hj hne e
    have hi' : i < M := by rw [tab_len] at hi; exact hi
    have hj' : j < M := by rw [tab_len] at hj; exact hj
    have e1 : (tabOf M k op).rows[i] = rowAt k op i := by rw [← TabM.at_lt hi]; exact tab_at hi'
    have e2 : (tabOf M k op).rows[j] = rowAt k op j := by rw [← TabM.at_lt hj]; exact tab_at hj'
    rw [e1, e2] at e
    rw [e1]
    by_cases h1 : i < k
    · rw [rowAt_seq h1] at e ⊢
      by_cases h2 : j < k
      · rw [rowAt_seq h2] at e; omega
      · unfold rowAt at e; rw [if_neg h2] at e; cases e
    · unfold rowAt; rw [if_neg h1]; rfl
  · intro i j hi hj e1 e2
    have hi' : i < M := by rw [tab_len] at hi; exact hi
    have hj' : j < M := by rw [tab_len] at hj; exact hj
    rw [← TabM.at_lt hi, tab_at hi'] at e1
    rw [← TabM.at_lt hj, tab_at hj'] at e2
    have key : ∀ x, (rowAt k op x).kind = 1 → x + 1 = k := by
      intro x hx
      unfold rowAt at hx
      split at hx
      · simp only at hx
        split at hx
        · rename_i h; exact h.2
        · cases hx
      · cases hx
    have := key i e1
    have := key j e2
    omega
section
variable {fr M : Nat} {σ : LG} {k : Nat} {op hd : Bool} {Ns : Nat → List RecM.Nte} {ex : List Bs} {F : Nat → List Bs} {X : List Bs} {er : Bool} {N : Nat}
theorem Inv.ok (h : Inv fr M σ k op hd Ns ex F X er) (hM : M ≤ 256) (ok : FlaM.Ok σ.fs N) (hN : k ≤ N) (h1 : 1 ≤ N) : LgOk fr σ N := by
  refine ⟨ok, by rw [h.tb]; exact tab_ok op hM hN h1, by rw [h.tb, tab_len, h.phy.len]; exact Nat.le_refl _, h.pp, fun hc => ?_, by rw [h.tb]; exact load_tab op hM⟩
  rw [cur_some h] at hc
  have ha := h.at_ hc
  have hpp := h.pp
  cases hd
  · rw [if_neg (by simp)] at ha; omega
  · rw [if_pos rfl] at ha
    have hk := h.opn hc
    have hl := full_len h hk
    have hr := h.phy.roomX
    have hall := h.all (k - 1) (by omega)
    have : 1 ≤ (onSeg F (k - 1) X (k - 1)).length := by
      rw [hall]
      unfold full
      rw [if_neg (by simp), List.length_cons]
      omega
    omega
end
def nD (i : Nat) : RecM.Nte := ⟨3, 0, i, RecM.zsum, 0, []⟩
def x0 : LG := ⟨FlaM.fresh (2 + 1) 4, TabM.fresh 2, 4⟩
def x1 : LG := (appendL 1 x0 (nD 0)).1
def x2 : LG := (appendL 1 x1 (nD 1)).1
def x3 : LG := (appendL 1 x2 (nD 2)).1
def x4 : LG := (appendL 1 x3 (nD 3)).1
def xs (i : Nat) : LG := if i = 0 then x0 else if i = 1 then x1 else if i = 2 then x2 else if i = 3 then x3 else x4
def want (i : Nat) : Plc := if i = 0 then ⟨0, 1, 1⟩ else if i = 1 then ⟨0, 2, 1⟩ else if i = 2 then ⟨0, 3, 1⟩ else ⟨1, 1, 1⟩
theorem x1_eq : x1 = (appendL 1 x0 (nD 0)).1 := by rw [x1]
theorem x2_eq : x2 = (appendL 1 x1 (nD 1)).1 := by rw [x2]
theorem x3_eq : x3 = (appendL 1 x2 (nD 2)).1 := by rw [x3]
theorem x4_eq : x4 = (appendL 1 x3 (nD 3)).1 := by rw [x4]
theorem ex0 : (appendL 1 x0 (nD 0)).2 = (⟨0, 1, 1⟩, 0) := by kernel_rfl
theorem ex1 : (appendL 1 x1 (nD 1)).2 = (⟨0, 2, 1⟩, 0) := by kernel_rfl
theorem ex2 : (appendL 1 x2 (nD 2)).2 = (⟨0, 3, 1⟩, 0) := by kernel_rfl
theorem ex3 : (appendL 1 x3 (nD 3)).2 = (⟨1, 1, 1⟩, 0) := by kernel_rfl
theorem ex4 : headN x4 = (2, 2) := by kernel_rfl
theorem ex_step (i : Nat) (h : i < 4) : appendL 1 (xs i) (nD i) = (xs (i + 1), (want i, 0)) := by
  rcases (show i = 0 ∨ i = 1 ∨ i = 2 ∨ i = 3 by omega) with rfl | rfl | rfl | rfl
  · have e1 : xs 0 = x0 := by simp [xs]
    have e2 : xs (0 + 1) = x1 := by simp [xs]
    have e3 : want 0 = ⟨0, 1, 1⟩ := by simp [want]
    rw [e1, e2, e3]
    have h := (Prod.eta (appendL 1 x0 (nD 0))).symm
    rw [ex0, ← x1_eq] at h
    exact h
  · have e1 : xs 1 = x1 := by simp [xs]
    have e2 : xs (1 + 1) = x2 := by simp [xs]
    have e3 : want 1 = ⟨0, 2, 1⟩ := by simp [want]
    rw [e1, e2, e3]
    have h := (Prod.eta (appendL 1 x1 (nD 1))).symm
    rw [ex1, ← x2_eq] at h
    exact h
  · have e1 : xs 2 = x2 := by simp [xs]
    have e2 : xs (2 + 1) = x3 := by simp [xs]
    have e3 : want 2 = ⟨0, 3, 1⟩ := by simp [want]
    rw [e1, e2, e3]
    have h := (Prod.eta (appendL 1 x2 (nD 2))).symm
    rw [ex2, ← x3_eq] at h
    exact h
  · have e1 : xs 3 = x3 := by simp [xs]
    have e2 : xs (3 + 1) = x4 := by simp [xs]
    have e3 : want 3 = ⟨1, 1, 1⟩ := by simp [want]
    rw [e1, e2, e3]
    have h := (Prod.eta (appendL 1 x3 (nD 3))).symm
    rw [ex3, ← x4_eq] at h
    exact h
theorem nD_good (i : Nat) (h : i < 18446744073709551616) : Good (nD i) := ⟨⟨(by show 0 < 4294967296; decide), h, rfl, (by show 0 < 4294967296; decide)⟩, rfl⟩
theorem nD_pages (i : Nat) (h : i < 18446744073709551616) : (notePages (nD i)).length = 1 := by
  unfold notePages
  rw [PagM.pages_len, RecM.laid_len (nD_good i h).fits]
  simp [RecM.sizeN, nD]
def XOk (i k : Nat) (op : Bool) : Prop := (∃ hd Ns ex F X er, Inv 1 2 (xs i) k op hd Ns ex F X er) ∧ FlaM.Ok (xs i).fs (2 + 7 * i) ∧ Live (xs i).fs ∧ (xs i).fs.pp = 4
theorem x_step (i : Nat) (hi : i < 4) {k : Nat} {op : Bool} (h : XOk i k op) (hk : k < 2) : XOk (i + 1) (if op = true ∧ (xs i).a + 1 ≤ 4 then k else k + 1) true := by
  obtain ⟨⟨hd, Ns, ex, F, X, er, hI⟩, ok, hl, hpp⟩ := h
  have hlen := nD_pages i (by omega)
  obtain ⟨⟨k', op', hd', Ns', ex', F', X', er', q⟩, qok⟩ := inv_append hI ok (nD_good i (by omega)) hk (by rw [hlen, hpp]; decide)
  have hkx := q.kx hl
  have hq := q.live hl
  have hqi := q.inv
  have hqp := q.pp
  have hor := q.or
  rw [ex_step i hi] at hq hqi hqp qok hor
  rw [hlen, hpp] at hkx
  rcases hor with ⟨_, h1, _⟩ | ⟨h1, _⟩
  · subst h1
    rw [hkx] at hqi
    exact ⟨⟨_, _, _, _, _, _, hqi⟩, qok.more (by omega), hq.2, hqp.trans hpp⟩
  · have := congrArg Prod.snd h1
    cases this
theorem xa1 : (xs 1).a = 2 := by kernel_rfl
theorem xa2 : (xs 2).a = 3 := by kernel_rfl
theorem xa3 : (xs 3).a = 4 := by kernel_rfl
theorem x_ok0 : XOk 0 0 false := ⟨⟨_, _, _, _, _, _, inv_fresh 1 2 4 (by decide)⟩, (FlaM.ok_fresh 3 4 (by decide) (by decide)).more (by decide), ⟨rfl, rfl⟩, rfl⟩
theorem x_ok1 : XOk 1 1 true := by have h := x_step 0 (by decide) x_ok0 (by decide); rw [if_neg (by simp)] at h; exact h
theorem x_ok2 : XOk 2 1 true := by have h := x_step 1 (by decide) x_ok1 (by decide); rw [xa1, if_pos (by simp)] at h; exact h
theorem x_ok3 : XOk 3 1 true := by have h := x_step 2 (by decide) x_ok2 (by decide); rw [xa2, if_pos (by simp)] at h; exact h
theorem x_ok4 : XOk 4 2 true := by have h := x_step 3 (by decide) x_ok3 (by decide); rw [xa3, if_neg (by simp)] at h; exact h
theorem x_lg {i k : Nat} {op : Bool} (h : XOk i k op) (hk : k ≤ 2) : LgOk 1 (xs i) (2 + 7 * i) := by
  obtain ⟨⟨hd, Ns, ex, F, X, er, hI⟩, ok, _⟩ := h
  exact hI.ok (by decide) ok (by omega) (by omega)
theorem xs_ok (i : Nat) (hi : i ≤ 4) : LgOk 1 (xs i) (2 + 7 * i) := by
  rcases (show i = 0 ∨ i = 1 ∨ i = 2 ∨ i = 3 ∨ i = 4 by omega) with rfl | rfl | rfl | rfl | rfl
  · exact x_lg x_ok0 (by decide)
  · exact x_lg x_ok1 (by decide)
  · exact x_lg x_ok2 (by decide)
  · exact x_lg x_ok3 (by decide)
  · exact x_lg x_ok4 (by decide)
end Go.LogM
end
section
namespace Go.Own
open Go.RowKit
structure Step (S T : Nat → Prop) (w w' : World) : Prop where
  os : w'.os = w.os
  tape : w'.tape = w.tape
  output : w'.output = w.output
  size : w.heap.size ≤ w'.heap.size
  block : ∀ k, k < w.heap.size → ¬ S k → w'.heap[k]? = w.heap[k]?
  new : ∀ k, T k → S k ∨ w.heap.size ≤ k
theorem Step.refl (S : Nat → Prop) (w : World) : Step S S w w := ⟨rfl, rfl, rfl, Nat.le_refl _, fun _ _ _ => rfl, fun _ h => Or.inl h⟩
theorem Step.trans {S T U : Nat → Prop} {w w1 w2 : World} (h : Step S T w w1) (g : Step T U w1 w2) : Step S U w w2 :=
  ⟨g.os.trans h.os, g.tape.trans h.tape, g.output.trans h.output, Nat.le_trans h.size g.size,
   fun k hk hs => (g.block k (Nat.lt_of_lt_of_le hk h.size) (fun ht => (h.new k ht).elim hs (fun h1 => absurd h1 (by omega)))).trans (h.block k hk hs),
   fun k hu => (g.new k hu).elim (fun h1 => h.new k h1) (fun h1 => Or.inr (Nat.le_trans h.size h1))⟩
theorem Step.drewN {S T : Nat → Prop} {w w' : World} (h : Step S T w w') (n : Nat) : Step S T w (w'.drewN n) := ⟨h.os, h.tape, h.output, h.size, h.block, h.new⟩
theorem Step.drew {S T : Nat → Prop} {w w' : World} (h : Step S T w w') : Step S T w w'.drew := ⟨h.os, h.tape, h.output, h.size, h.block, h.new⟩
theorem Step.setCell {S T : Nat → Prop} {w w' : World} (h : Step S T w w') {a : Addr} (ha : S a.block ∨ w.heap.size ≤ a.block) (u : Value) : Step S T w (w'.setCell a u) :=
  ⟨h.os, h.tape, h.output, by simpa using h.size, fun k hk hs => by
    have hne : k ≠ a.block := by
      intro e; subst e
      exact ha.elim hs (fun h1 => absurd h1 (by omega))
    rw [Below.heap_setCell _ _ _ _ hne]; exact h.block k hk hs, h.new⟩
theorem Step.alloc {S T : Nat → Prop} {w w' : World} (h : Step S T w w') (o : Obj) : Step S T w (w'.alloc o) :=
  ⟨h.os, h.tape, h.output, by have := h.size; simp; omega, fun k hk hs => by
    rw [Below.heap_alloc _ _ _ (by have := h.size; omega)]; exact h.block k hk hs, h.new⟩
theorem Step.to {S T U : Nat → Prop} {w w' : World} (h : Step S T w w') (hu : ∀ k, U k → S k ∨ w.heap.size ≤ k) : Step S U w w' := ⟨h.os, h.tape, h.output, h.size, h.block, hu⟩
theorem Step.grown {S T : Nat → Prop} {w w1 w' : World} {row : Option Nat} (h : Step S T w w1) (hg : w1.grownBy w' row) (hr : ∀ k, row = some k → S k ∨ w.heap.size ≤ k) : Step S T w w' :=
  ⟨hg.os.trans h.os, hg.tape.trans h.tape, hg.output.trans h.output, Nat.le_trans h.size hg.size,
   fun k hk hs => (hg.block k (by have := h.size; omega) (fun e => (hr k e.symm).elim hs (fun h1 => absurd h1 (by omega)))).trans (h.block k hk hs), h.new⟩
theorem Step.below {S T : Nat → Prop} {w w' : World} (h : Step S T w w') {B : Nat} (hB : B ≤ w.heap.size) (hS : ∀ k, S k → B ≤ k) : Below B w w' :=
  ⟨h.os, h.tape, h.output, h.size, fun k hk => h.block k (by omega) (fun hs => by have := hS k hs; omega)⟩
def Dis (S T : Nat → Prop) : Prop := ∀ k, S k → ¬ T k
theorem cell_of_block {w : World} {b i : Nat} {c : Array Value} {t : TypeId} {fz : Nat × Nat} {v : Value} (h : w.heap[b]? = some (.cells c t fz)) (hv : c[i]? = some v) : w.cell? ⟨b, i, none⟩ = some v := by
  simp [World.cell?, h, hv]
theorem cell_alloc {w : World} {a : Addr} {v : Value} (h : w.cell? a = some v) (o : Obj) : (w.alloc o).cell? a = some v := by
  rw [World.cell?_alloc_lt _ _ _ (World.block_lt_of_cell? w a h)]; exact h
theorem frozen_of_block {w : World} {b i : Nat} {c : Array Value} {t : TypeId} (h : w.heap[b]? = some (.cells c t (0, 0))) : w.frozen? ⟨b, i, none⟩ = false := by
  simp [World.frozen?, h]
theorem lt_of_block {w : World} {b : Nat} {o : Obj} (h : w.heap[b]? = some o) : b < w.heap.size := (Array.getElem?_eq_some_iff.1 h).1
theorem block_setCell {w : World} {b i : Nat} {c : Array Value} {t : TypeId} {fz : Nat × Nat} (h : w.heap[b]? = some (.cells c t fz)) (u : Value) :
    (w.setCell ⟨b, i, none⟩ u).heap[b]? = some (.cells (c.setIfInBounds i u) t fz) := by
  simp [World.setCell, Array.getElem?_modify, h]
def byteV (c : UInt8) : Value := .int .u8 (c.toNat : Int)
theorem byteV_one (l : List UInt8) : ∀ u ∈ l.map byteV, u.oneCell' = true := by
  intro u hu; obtain ⟨c, _, rfl⟩ := List.mem_map.1 hu; rfl
structure Row (w : World) (e : TypeId) (size : Nat) (T : Nat → Prop) (v : Value) (n : Nat) (xs : List Value) : Prop where
  own : w.ownsRow 0 e size v n xs
  set : ∀ k, T k ↔ v.ownBlock = some k
section
variable {w w' : World} {e : TypeId} {size : Nat} {S T U : Nat → Prop} {v : Value} {n : Nat} {xs : List Value}
theorem Row.nil (w : World) (e : TypeId) (size : Nat) : Row w e size (fun _ => False) (.slice none 0 0) 0 [] := ⟨World.ownsRow_nil w 0 e size, fun k => by simp [Value.ownBlock]⟩
theorem Row.form (h : Row w e size T v n xs) : ∃ ao cap, v = .slice ao n cap ∧ n ≤ cap ∧ cap ≤ maxLen ∧ (ao = none → n = 0 ∧ cap = 0 ∧ xs = []) ∧ ∀ a, ao = some a → ∃ g, a = ⟨g, 0, none⟩ ∧ T g := by
  have hs := h.set
  have hx := h.own.1
  rcases h.own.2 with ⟨rfl, rfl⟩ | ⟨g, cap, cur, rfl, _, _, h1, h2, _⟩
  · exact ⟨none, 0, rfl, Nat.le_refl _, by unfold maxLen; omega, fun _ => ⟨rfl, rfl, List.eq_nil_of_length_eq_zero (by simpa using hx)⟩, fun a h => by cases h⟩
  · exact ⟨_, cap, rfl, h1, h2, fun h => by (cases h), fun a ha => ⟨g, by cases ha; rfl, (hs g).2 rfl⟩⟩
theorem Row.lt (h : Row w e size T v n xs) : ∀ k, T k → k < w.heap.size := fun k hk => (h.own.lt k ((h.set k).1 hk)).2
theorem Row.step (h : Row w e size T v n xs) (g : Step S U w w') (hd : Dis T S) : Row w' e size T v n xs := by
  refine ⟨⟨h.own.1, ?_⟩, h.set⟩
  rcases h.own.2 with h1 | ⟨b, cap, cur, rfl, h0, hb, r⟩
  · exact .inl h1
  · exact .inr ⟨b, cap, cur, rfl, h0, (g.block b (lt_of_block hb) (hd b ((h.set b).2 rfl))).trans hb, r⟩
theorem Row.alloc (h : Row w e size T v n xs) (o : Obj) : Row (w.alloc o) e size T v n xs := ⟨h.own.alloc o, h.set⟩
theorem Row.drew (h : Row w e size T v n xs) : Row w.drew e size T v n xs := ⟨h.own.drew, h.set⟩
theorem Row.cells {b cap : Nat} (h : Row w e size T (.slice (some ⟨b, 0, none⟩) n cap) n xs) (j : Nat) (hj : j < n * size) : w.cell? ⟨b, j, none⟩ = xs[j]? := h.own.cellAt j hj
end
theorem Row.made (w : World) (cs : Array Value) (e : TypeId) (size n : Nat) (hm : n ≤ maxLen) (hs : cs.size = n * size) : Row (w.alloc (.cells cs e)) e size (fun k => k = w.heap.size) (.slice (some ⟨w.heap.size, 0, none⟩) n n) n cs.toList :=
  ⟨World.ownsRow_lit w cs n (Nat.zero_le _) hm hs, fun k => by simp [Value.ownBlock, eq_comm]⟩
theorem run_append_row {P : Program} (w : World) (t ty e : TypeId) (i : TypeInfo) (z : Value) (size bytes : Nat) (ht : P.underlying t = some (.slice e)) (hi : P.info? e = some i) (hz : i.zero = some z)
    (hsize : i.size = size) (hby : i.bytes = bytes) (hzs : z.cells.size = size) (hsz : 0 < size)
    {T : Nat → Prop} (v : Value) (n : Nat) (xs : List Value) (hrow : Row w e size T v n xs)
    (ao : Option Addr) (m c : Nat) (news : List Value) (hno : ao = none → m = 0 ∧ c = 0) (hl : news.length = m * size) (hnews : ∀ a, ao = some a → ∀ j u, news[j]? = some u → w.cell? (a.add j) = some u) (h1 : ∀ u ∈ news, u.oneCell' = true)
    (h63 : n + m ≤ maxLen) (hbytes : (n + m) * bytes ≤ 140737488355328) :
    ∃ v' w' T', (Builtin.append_ #[t, t] ty #[v, .slice ao m c]).run P w = .ok v' w' ∧ Row w' e size T' v' (n + m) (xs ++ news) ∧ Step T T' w w' := by
  cases ao with
  | none =>
    obtain ⟨rfl, rfl⟩ := hno rfl
    obtain rfl : news = [] := List.eq_nil_of_length_eq_zero (by simpa using hl)
    exact ⟨v, w, T, run_append_owned_none (P := P) w 0 t ty e i size ht hi v n xs hrow.own, by simpa using hrow, Step.refl _ _⟩
  | some a =>
    rcases hrow.own.2 with ⟨rfl, rfl⟩ | ⟨g, cap, cur, rfl, hbg, hg, hnc, hcm, hcs, htake⟩
    · obtain rfl : xs = [] := List.eq_nil_of_length_eq_zero (by simpa using hrow.own.1)
      obtain ⟨v', w', hr, r1, r2, _⟩ := run_append_own (P := P) w w.heap.size t ty e i z size bytes ht hi hz hsize hby hzs hsz _ 0 [] (World.ownsRow_nil w _ e size) a m c news hl (hnews a rfl) h1 h63 hbytes (Nat.le_refl _)
      have hlt := r1.lt
      refine ⟨v', w', fun k => v'.ownBlock = some k, hr, ⟨⟨r1.1, ?_⟩, fun _ => Iff.rfl⟩, ⟨r2.os, r2.tape, r2.output, r2.size, fun k hk _ => r2.block k hk (by simp [Value.ownBlock]), fun k hk => .inr (hlt k hk).1⟩⟩
      rcases r1.2 with h | ⟨g, cap, cur, h⟩
      · exact .inl h
      · exact .inr ⟨g, cap, cur, h.1, Nat.zero_le _, h.2.2⟩
    · by_cases hroom : n + m ≤ cap
      · obtain ⟨w', hr, r1, r2⟩ := run_append_fits (P := P) w 0 t ty e i size ht hi hsize g n cap xs hrow.own a m c news hl (hnews a rfl) h1 hroom
        exact ⟨_, w', T, hr, ⟨r1, fun k => by rw [hrow.set k]; simp [Value.ownBlock]⟩, ⟨r2.os, r2.tape, r2.output, r2.size, fun k hk hT => r2.block k hk (fun e => hT ((hrow.set k).2 (by simpa [Value.ownBlock] using e.symm))), fun k hk => .inl hk⟩⟩
      · have holds : ∀ j u, xs[j]? = some u → w.cell? ((⟨g, 0, none⟩ : Addr).add j) = some u := hrow.own.cells (g := g) rfl
        obtain ⟨v', w', hr, r1, r2⟩ := run_append_arg_grows (P := P) w t ty e i z size bytes ht hi hz hsize hby hzs hsz ⟨g, 0, none⟩ n cap xs hrow.own.1 holds a m c news hl (hnews a rfl) (by omega) h63 hbytes
        have hlt := r1.lt
        refine ⟨v', w', fun k => v'.ownBlock = some k, hr, ⟨⟨r1.1, ?_⟩, fun _ => Iff.rfl⟩, ⟨r2.os, r2.tape, r2.output, r2.size, fun k hk _ => r2.block k hk (by simp), fun k hk => .inr (hlt k hk).1⟩⟩
        rcases r1.2 with h | ⟨g, cap, cur, h⟩
        · exact .inl h
        · exact .inr ⟨g, cap, cur, h.1, Nat.zero_le _, h.2.2⟩
theorem step_append_row {P : Program} {ops : Array Oper} {o : Oper} {a : Act} {w : World} {K : Act → World → Prop} {Q : Exit → Act → World → Prop} {E : Prop}
    (hg : o.guard = none) (s x : Operand) (t : TypeId) (hop : o.op = Op.call { callee := Callee.builtin Builtin.append, args := #[s, x], argTypes := #[t, t] })
    (e : TypeId) (i : TypeInfo) (z : Value) (size bytes : Nat) (h1 : P.underlying t = some (.slice e)) (h2 : P.info? e = some i) (h3 : i.zero = some z) (h4 : i.size = size) (h5 : i.bytes = bytes) (h6 : z.cells.size = size) (h7 : 0 < size)
    {T : Nat → Prop} (v : Value) (n : Nat) (xs : List Value) (hs : a.eval s = v) (hrow : Row w e size T v n xs)
    (ao : Option Addr) (m c : Nat) (news : List Value) (hx : a.eval x = .slice ao m c) (hno : ao = none → m = 0 ∧ c = 0) (hn : news.length = m * size) (hc : ∀ a, ao = some a → ∀ j u, news[j]? = some u → w.cell? (a.add j) = some u) (h1c : ∀ u ∈ news, u.oneCell' = true)
    (b1 : n + m ≤ maxLen) (b2 : (n + m) * bytes ≤ 140737488355328)
    (hK : ∀ v' w' T', Row w' e size T' v' (n + m) (xs ++ news) → Step T T' w w' → K (a.put o.dst v') w') :
    if Region.wanted o (yielded ops a.tmps) = true then Oper.wp P o a w K Q else E := by
  have hw : Region.wanted o (yielded ops a.tmps) = true := by simp [Region.wanted, hg]
  rw [if_pos hw]
  obtain ⟨v', w', T', hrun, r1, r2⟩ := run_append_row (P := P) w t o.type e i z size bytes h1 h2 h3 h4 h5 h6 h7 v n xs hrow ao m c news hno hn hc h1c b1 b2
  unfold Oper.wp
  simp [execOp, hop, resolve, invoke, builtin, hs, hx, hrun, Result.andThen]
  exact hK v' w' T' r1 r2
theorem wpList_append_row {P : Program} {w : World} {ops : Array Oper} {rest : List Oper} {o : Oper} {a : Act} {Q : Exit → Act → World → Prop} (hgd : o.guard = none) (s x : Operand) (t : TypeId)
    (ho : o.op = .call { callee := .builtin .append, args := #[s, x], argTypes := #[t, t] })
    (e : TypeId) (i : TypeInfo) (z : Value) (size bytes : Nat) (h1 : P.underlying t = some (.slice e)) (h2 : P.info? e = some i) (h3 : i.zero = some z) (h4 : i.size = size) (h5 : i.bytes = bytes) (h6 : z.cells.size = size) (h7 : 0 < size)
    {T : Nat → Prop} (v : Value) (n : Nat) (xs : List Value) (hs : a.eval s = v) (hrow : Row w e size T v n xs)
    (ao : Option Addr) (m c : Nat) (news : List Value) (hx : a.eval x = .slice ao m c) (hno : ao = none → m = 0 ∧ c = 0) (hn : news.length = m * size) (hc : ∀ a, ao = some a → ∀ j u, news[j]? = some u → w.cell? (a.add j) = some u) (h1c : ∀ u ∈ news, u.oneCell' = true)
    (b1 : n + m ≤ maxLen) (b2 : (n + m) * bytes ≤ 140737488355328)
    (h : ∀ v' w' T', Row w' e size T' v' (n + m) (xs ++ news) → Step T T' w w' → wpList P ops Q rest (a.put o.dst v') w') : wpList P ops Q (o :: rest) a w := by
  refine wpList_plain hgd fun K hK => ?_
  obtain ⟨v', w', T', hrun, r1, r2⟩ := run_append_row (P := P) w t o.type e i z size bytes h1 h2 h3 h4 h5 h6 h7 v n xs hrow ao m c news hno hn hc h1c b1 b2
  unfold Oper.wp
  simp [execOp, ho, resolve, invoke, builtin, hs, hx, hrun, Result.andThen]
  exact hK _ _ (h v' w' T' r1 r2)
theorem cell_new_byte (w : World) (c : UInt8) (t : TypeId) : ∀ a, some (⟨w.heap.size, 0, none⟩ : Addr) = some a → ∀ j u, [byteV c][j]? = some u → (w.alloc (.cells #[.int .u8 (c.toNat : Int)] t)).cell? (a.add j) = some u := by
  intro a ha j u hj
  cases ha
  match j, hj with
  | 0, hj => simp at hj; subst hj; simp [Addr.add, byteV]
def View (w : World) (S : Nat → Prop) (ao : Option Addr) (l : List UInt8) : Prop :=
  l = [] ∨ ∃ b o, ao = some ⟨b, o, none⟩ ∧ S b ∧ b < w.heap.size ∧ ∀ j, j < l.length → w.cell? ⟨b, o + j, none⟩ = some (.int .u8 ((l.getD j 0).toNat : Int))
theorem View.step {w w' : World} {S T U : Nat → Prop} {ao : Option Addr} {l : List UInt8} (h : View w S ao l) (g : Step T U w w') (hd : Dis S T) : View w' S ao l := by
  rcases h with h | ⟨b, o, e, hS, hb, hc⟩
  · exact .inl h
  · exact .inr ⟨b, o, e, hS, Nat.lt_of_lt_of_le hb g.size, fun j hj => (World.cell?_of_block (w := w) (g.block b hb (hd b hS))).trans (hc j hj)⟩
theorem View.live {w : World} {D : Nat → Prop} {ao : Option Addr} {l : List UInt8} (h : View w D ao l) : View w (fun k => D k ∧ k < w.heap.size) ao l := by
  rcases h with h | ⟨b, o, e, hS, hb, hc⟩
  · exact .inl h
  · exact .inr ⟨b, o, e, ⟨hS, hb⟩, hb, hc⟩
theorem Dis.step {D S T : Nat → Prop} {w w' : World} (hd : Dis D S) (hs : Step S T w w') : Dis (fun k => D k ∧ k < w.heap.size) T :=
  fun k hk ht => (hs.new k ht).elim (hd k hk.1) (fun h => absurd hk.2 (by omega))
theorem Dis.symm {S T : Nat → Prop} (h : Dis S T) : Dis T S := fun k ht hs => h k hs ht
theorem Dis.grow {S T U : Nat → Prop} {w w' : World} (hd : Dis S U) (hu : ∀ k, U k → k < w.heap.size) (hs : Step S T w w') : Dis T U :=
  fun k ht hk => (hs.new k ht).elim (fun h => hd k h hk) (fun h => absurd (hu k hk) (by omega))
theorem Step.from {S T : Nat → Prop} {w w' : World} {B : Nat} (hs : Step S T w w') (h : ∀ k, S k → B ≤ k) (hB : B ≤ w.heap.size) : ∀ k, T k → B ≤ k :=
  fun k ht => (hs.new k ht).elim (h k) (fun g => Nat.le_trans hB g)
theorem Row.view {w : World} {e : TypeId} {T : Nat → Prop} {ao : Option Addr} {n cap : Nat} {l : List UInt8} (h : Row w e 1 T (.slice ao n cap) n (l.map byteV)) : View w T ao l := by
  have hl : l.length = n := by simpa using h.own.1
  obtain ⟨ao', cap', hv, _, _, h0, h1⟩ := h.form
  simp only [Value.slice.injEq, true_and] at hv
  obtain ⟨rfl, rfl⟩ := hv
  cases ao with
  | none => have := (h0 rfl).1; exact .inl (List.eq_nil_of_length_eq_zero (by omega))
  | some a =>
    obtain ⟨g, rfl, hT⟩ := h1 a rfl
    refine .inr ⟨g, 0, rfl, hT, h.lt g hT, fun j hj => ?_⟩
    rw [Nat.zero_add, h.cells j (by rw [Nat.mul_one]; omega)]
    simp [byteV, hj]
end Go.Own
end
section
namespace Go.Own
open Go.RowKit
structure Asn where
  holds : (Nat → Prop) → World → Prop
  keep : ∀ {S T U : Nat → Prop} {w w' : World}, holds S w → Step T U w w' → Dis S T → holds S w'
  lt : ∀ {S : Nat → Prop} {w : World}, holds S w → ∀ k, S k → k < w.heap.size
def Apart (w : World) : List Asn → (Nat → Prop) → Prop
  | [], S => ∀ k, ¬ S k
  | P :: Ps, S => ∃ S1 S2, P.holds S1 w ∧ Apart w Ps S2 ∧ Dis S1 S2 ∧ ∀ k, S k ↔ (S1 k ∨ S2 k)
theorem Apart.lt {w : World} : ∀ {Ps : List Asn} {S : Nat → Prop}, Apart w Ps S → ∀ k, S k → k < w.heap.size
  | [], _, h, k, hk => absurd hk (h k)
  | P :: _, _, ⟨_, _, h1, h2, _, h4⟩, k, hk => ((h4 k).1 hk).elim (P.lt h1 k) (fun h => h2.lt k h)
theorem Apart.keep {w w' : World} {T U : Nat → Prop} (g : Step T U w w') : ∀ {Ps : List Asn} {S : Nat → Prop}, Apart w Ps S → Dis S T → Apart w' Ps S
  | [], _, h, _ => h
  | P :: _, _, ⟨S1, S2, h1, h2, h3, h4⟩, hd => ⟨S1, S2, P.keep h1 g (fun k hk => hd k ((h4 k).2 (.inl hk))), h2.keep g (fun k hk => hd k ((h4 k).2 (.inr hk))), h3, h4⟩
theorem Apart.at {w : World} : ∀ {Ps : List Asn} {S : Nat → Prop} (i : Nat) {P : Asn}, Apart w Ps S → Ps[i]? = some P →
    ∃ Si, P.holds Si w ∧ (∀ k, Si k → S k) ∧ (∀ (j : Nat) (R : Asn), j ≠ i → Ps[j]? = some R → ∃ Sj, R.holds Sj w ∧ Dis Sj Si) ∧
      ∀ (S' : Nat → Prop) (w' : World) (Q : Asn), Q.holds S' w' → Step Si S' w w' → ∃ S'', Apart w' (Ps.set i Q) S'' ∧ (∀ k, S'' k → S k ∨ S' k)
  | [], _, i, _, _, hi => by simp at hi
  | P :: Ps, S, 0, P', ⟨S1, S2, h1, h2, h3, h4⟩, hi => by
    obtain rfl : P = P' := by simpa using hi
    refine ⟨S1, h1, fun k hk => (h4 k).2 (.inl hk), fun j R hj hR => ?_, fun S' w' Q hQ hs => ⟨fun k => S' k ∨ S2 k, ⟨S', S2, hQ, h2.keep hs h3.symm, h3.grow h2.lt hs, fun k => Iff.rfl⟩, fun k hk => hk.elim .inr (fun h => .inl ((h4 k).2 (.inr h)))⟩⟩
    match j, hj with
    | j + 1, _ =>
      obtain ⟨Sj, g1, g2, _⟩ := h2.at j (by simpa using hR)
      exact ⟨Sj, g1, fun k hk hk' => h3 k hk' (g2 k hk)⟩
  | P :: Ps, S, i + 1, P', ⟨S1, S2, h1, h2, h3, h4⟩, hi => by
    obtain ⟨Si, g1, g2, g4, g3⟩ := h2.at i (by simpa using hi)
    refine ⟨Si, g1, fun k hk => (h4 k).2 (.inr (g2 k hk)), fun j R hj hR => ?_, fun S' w' Q hQ hs => ?_⟩
    · match j, hj with
      | 0, _ =>
        obtain rfl : P = R := by simpa using hR
        exact ⟨S1, h1, fun k hk hk' => h3 k hk (g2 k hk')⟩
      | j + 1, hj => exact g4 j R (by omega) (by simpa using hR)
    obtain ⟨S'', k1, k2⟩ := g3 S' w' Q hQ hs
    have hd : Dis S1 Si := fun k hk hk' => h3 k hk (g2 k hk')
    have hd' : Dis S1 S' := (hd.symm.grow (P.lt h1) hs).symm
    exact ⟨fun k => S1 k ∨ S'' k, ⟨S1, S'', P.keep h1 hs hd, k1, fun k hk hk' => (k2 k hk').elim (h3 k hk) (hd' k hk), fun k => Iff.rfl⟩, fun k hk => hk.elim (fun h => .inl ((h4 k).2 (.inl h))) (fun h => (k2 k h).imp (fun g => (h4 k).2 (.inr g)) id)⟩
structure St (B : Nat) (w0 w : World) (Ps : List Asn) : Prop where
  below : Below B w0 w
  size : B ≤ w.heap.size
  own : ∃ S, Apart w Ps S ∧ ∀ k, S k → B ≤ k
theorem St.start (w : World) : St w.heap.size w w [] := ⟨Below.refl _ _, Nat.le_refl _, fun _ => False, fun _ h => h, fun _ h => h.elim⟩
section
variable {B : Nat} {w0 w w' : World} {Ps : List Asn}
theorem St.at (h : St B w0 w Ps) (i : Nat) {P : Asn} (hi : Ps[i]? = some P) :
    ∃ Si, P.holds Si w ∧ (∀ k, Si k → B ≤ k) ∧ ∀ (S' : Nat → Prop) (w' : World) (Q : Asn), Q.holds S' w' → Step Si S' w w' → St B w0 w' (Ps.set i Q) := by
  obtain ⟨hb, hs, S, ha, hB⟩ := h
  obtain ⟨Si, g1, g2, _, g3⟩ := ha.at i hi
  refine ⟨Si, g1, fun k hk => hB k (g2 k hk), fun S' w' Q hQ hst => ?_⟩
  obtain ⟨S'', k1, k2⟩ := g3 S' w' Q hQ hst
  exact ⟨hb.trans (hst.below hs (fun k hk => hB k (g2 k hk))), Nat.le_trans hs hst.size, S'', k1, fun k hk => (k2 k hk).elim (hB k) (fun g => (hst.new k g).elim (fun g => hB k (g2 k g)) (Nat.le_trans hs))⟩
theorem St.more (h : St B w0 w Ps) (i : Nat) {P : Asn} (hi : Ps[i]? = some P) :
    ∃ Si, P.holds Si w ∧ ∀ (S' T' : Nat → Prop) (w' : World) (Q R : Asn), Q.holds S' w' → R.holds T' w' → Step Si S' w w' → (∀ k, T' k → w.heap.size ≤ k) → (∀ k, S' k → k < w.heap.size) → St B w0 w' (R :: Ps.set i Q) := by
  obtain ⟨hb, hs, S, ha, hB⟩ := h
  obtain ⟨Si, g1, g2, _, g3⟩ := ha.at i hi
  refine ⟨Si, g1, fun S' T' w' Q R hQ hR hst hT hS' => ?_⟩
  obtain ⟨S'', k1, k2⟩ := g3 S' w' Q hQ hst
  refine ⟨hb.trans (hst.below hs (fun k hk => hB k (g2 k hk))), Nat.le_trans hs hst.size, fun k => T' k ∨ S'' k, ⟨T', S'', hR, k1, fun k ht hk => ?_, fun k => Iff.rfl⟩, fun k hk => ?_⟩
  · have := hT k ht
    exact (k2 k hk).elim (fun g => by have := ha.lt k g; omega) (fun g => by have := hS' k g; omega)
  · exact hk.elim (fun g => Nat.le_trans hs (hT k g)) (fun g => (k2 k g).elim (hB k) (fun g => (hst.new k g).elim (fun g => hB k (g2 k g)) (Nat.le_trans hs)))
theorem St.new (h : St B w0 w Ps) {S' : Nat → Prop} (Q : Asn) (hQ : Q.holds S' w') (hst : Step (fun _ => False) S' w w') : St B w0 w' (Q :: Ps) := by
  obtain ⟨hb, hs, S, ha, hB⟩ := h
  refine ⟨hb.trans (hst.below hs (fun _ h => h.elim)), Nat.le_trans hs hst.size, fun k => S' k ∨ S k, ⟨S', S, hQ, ha.keep hst (fun _ _ h => h), fun k h1 h2 => (hst.new k h1).elim (fun h => h) (fun h => by have := ha.lt k h2; omega), fun k => Iff.rfl⟩, fun k hk => hk.elim (fun h => (hst.new k h).elim (fun h => h.elim) (Nat.le_trans hs)) (hB k)⟩
theorem St.quiet (h : St B w0 w Ps) {T : Nat → Prop} (hst : Step (fun _ => False) T w w') : St B w0 w' Ps := by
  obtain ⟨hb, hs, S, ha, hB⟩ := h
  exact ⟨hb.trans (hst.below hs (fun _ h => h.elim)), Nat.le_trans hs hst.size, S, ha.keep hst (fun _ _ h => h), hB⟩
theorem St.alloc (h : St B w0 w Ps) (o : Obj) : St B w0 (w.alloc o) Ps := h.quiet ((Step.refl (fun _ => False) w).alloc o)
theorem St.drew (h : St B w0 w Ps) : St B w0 w.drew Ps := h.quiet ((Step.refl (fun _ => False) w).drew)
theorem St.drewN (h : St B w0 w Ps) (n : Nat) : St B w0 (w.drewN n) Ps := h.quiet ((Step.refl (fun _ => False) w).drewN n)
theorem Apart.drop {w : World} : ∀ {Ps : List Asn} {S : Nat → Prop} (n : Nat), Apart w Ps S → ∃ S', Apart w (Ps.drop n) S' ∧ ∀ k, S' k → S k
  | Ps, S, 0, h => ⟨S, by simpa using h, fun _ h => h⟩
  | [], S, n + 1, h => ⟨S, by simpa using h, fun _ h => h⟩
  | _ :: _, _, n + 1, ⟨_, _, _, h2, _, h4⟩ => by
    obtain ⟨S', g1, g2⟩ := h2.drop n
    exact ⟨S', by simpa using g1, fun k hk => (h4 k).2 (.inr (g2 k hk))⟩
theorem St.drop (h : St B w0 w Ps) (n : Nat) : St B w0 w (Ps.drop n) := by
  obtain ⟨hb, hs, S, ha, hB⟩ := h
  obtain ⟨S', g1, g2⟩ := ha.drop n
  exact ⟨hb, hs, S', g1, fun k hk => hB k (g2 k hk)⟩
end
theorem View.below {w w' : World} {B : Nat} {ao : Option Addr} {l : List UInt8} (h : View w (fun k => k < B) ao l) (g : Below B w w') : View w' (fun k => k < B) ao l := by
  rcases h with h | ⟨b, o, e, hS, hb, hc⟩
  · exact .inl h
  · exact .inr ⟨b, o, e, hS, Nat.lt_of_lt_of_le hb g.size, fun j hj => (World.cell?_of_block (w := w) (g.block b hS)).trans (hc j hj)⟩
theorem View.same {w w' : World} {B : Nat} {ao : Option Addr} {l : List UInt8} (h : View w (fun k => k < B) ao l) (g : ∀ k, k < B → w'.heap[k]? = w.heap[k]?) : View w' (fun k => k < B) ao l := by
  rcases h with h | ⟨b, o, e, hS, hb, hc⟩
  · exact .inl h
  · refine .inr ⟨b, o, e, hS, ?_, fun j hj => (World.cell?_of_block (w := w) (g b hS)).trans (hc j hj)⟩
    have := g b hS
    rw [Array.getElem?_eq_getElem hb] at this
    exact (Array.getElem?_eq_some_iff.1 this).1
theorem Below.both {B : Nat} {W w w' : World} (h : Below B W w) (g : Below B W w') : ∀ k, k < B → w'.heap[k]? = w.heap[k]? := fun k hk => (g.block k hk).trans (h.block k hk).symm
theorem View.mono {w : World} {D D' : Nat → Prop} {ao : Option Addr} {l : List UInt8} (h : View w D ao l) (hd : ∀ k, D k → D' k) : View w D' ao l := by
  rcases h with h | ⟨b, o, e, hS, hb, hc⟩
  · exact .inl h
  · exact .inr ⟨b, o, e, hd b hS, hb, hc⟩
def ARow (e : TypeId) (size : Nat) (v : Value) (n : Nat) (xs : List Value) : Asn where
  holds S w := Row w e size S v n xs
  keep h g hd := h.step g hd
  lt h := h.lt
def ABlk (b : Nat) (o : Obj) : Asn where
  holds S w := w.heap[b]? = some o ∧ ∀ k, S k ↔ k = b
  keep h g hd := ⟨(g.block _ (lt_of_block h.1) (hd _ ((h.2 _).2 rfl))).trans h.1, h.2⟩
  lt h k hk := by rw [(h.2 k).1 hk]; exact lt_of_block h.1
theorem St.block {B : Nat} {w0 w : World} {Ps : List Asn} (h : St B w0 w Ps) (i : Nat) {b : Nat} {o : Obj} (hi : Ps[i]? = some (ABlk b o)) : w.heap[b]? = some o := by
  obtain ⟨S, hS, _⟩ := h.at i hi
  exact hS.1
theorem St.box {B : Nat} {w0 w : World} {Ps : List Asn} (h : St B w0 w Ps) (o : Obj) : St B w0 (w.alloc o) (ABlk w.heap.size o :: Ps) :=
  h.new (S' := fun k => k = w.heap.size) (ABlk w.heap.size o) ⟨heap_alloc_new w o, fun _ => Iff.rfl⟩ (((Step.refl (fun _ => False) w).alloc o).to (fun k hk => Or.inr (Nat.le_of_eq hk.symm)))
end Go.Own
end
