/- Merged: PagM RecM FlaM LogM LogF TabM LogT LogS LogU LogV LogY LgaM Own Heap Arr Res Str In -/
import Derived.WalkKit
import Derived.Great.Walk
import Derived.Deep.RegionLaw
import Derived.Deep.Draws
import Derived.Deep.MidRow
import Derived.Laws.Rows
import Derived.Lib.SlBytesRow
import Derived.Lib.Strings
import Derived.Deep.Slices
import Derived.OpenShut
set_option linter.unusedVariables false
section
namespace Go.PagM
abbrev Bs := List UInt8
structure Frm where
  kind : UInt8
  first : Bool
  last : Bool
  data : Bs
def zeroF : Frm := ⟨0, false, false, []⟩
def headN (f : Frm) : Nat := f.kind.toNat + (if f.first then 64 else 0) + (if f.last then 128 else 0)
def laid (f : Frm) : Bs := UInt8.ofNat (headN f) :: UInt8.ofNat f.data.length :: (f.data ++ (List.replicate (125 - f.data.length) 0 ++ [90]))
def layE (f : Frm) : Nat := if 63 < f.kind.toNat then 1 else if 125 < f.data.length then 4 else 0
def lay (f : Frm) : Bs × Nat := if layE f = 0 then (laid f, 0) else ([], layE f)
theorem laid_len (f : Frm) (h : f.data.length ≤ 125) : (laid f).length = 128 := by
  unfold laid; simp; omega
/-- the frame that bytes would have -/
def guess (b : Bs) : Frm := ⟨UInt8.ofNat ((b.getD 0 0).toNat % 64), decide ((b.getD 0 0).toNat / 64 % 2 = 1), decide ((b.getD 0 0).toNat / 128 = 1), (b.drop 2).take (b.getD 1 0).toNat⟩
def isPage (b : Bs) : Bool := decide (b.length = 128) && decide ((b.getD 1 0).toNat ≤ 125) && decide (laid (guess b) = b)
def take (b : Bs) : Frm × Nat := if isPage b then (guess b, 0) else (zeroF, 90)
theorem ofNat_toNat (n : Nat) (h : n < 256) : (UInt8.ofNat n).toNat = n := by simp; omega
theorem headN_lt {f : Frm} (h : f.kind.toNat ≤ 63) : headN f < 256 := by unfold headN; split <;> split <;> omega
theorem laid_0 (f : Frm) : (laid f).getD 0 0 = UInt8.ofNat (headN f) := rfl
theorem laid_1 (f : Frm) : (laid f).getD 1 0 = UInt8.ofNat f.data.length := rfl
theorem guess_laid {f : Frm} (h1 : f.kind.toNat ≤ 63) (h2 : f.data.length ≤ 125) : guess (laid f) = f := by
  have e0 : (UInt8.ofNat (headN f)).toNat = headN f := ofNat_toNat _ (headN_lt h1)
  have e1 : (UInt8.ofNat f.data.length).toNat = f.data.length := ofNat_toNat _ (by omega)
  obtain ⟨k, a, z, d⟩ := f
  unfold guess
  rw [laid_0, laid_1, e0, e1]
  simp only at h1 h2
  have hk : headN ⟨k, a, z, d⟩ % 64 = k.toNat ∧ decide (headN ⟨k, a, z, d⟩ / 64 % 2 = 1) = a ∧ decide (headN ⟨k, a, z, d⟩ / 128 = 1) = z := by
    unfold headN
    cases a <;> cases z <;> simp <;> omega
  obtain ⟨q1, q2, q3⟩ := hk
  rw [q1, q2, q3]
  congr 1
  · simp
  · unfold laid
    simp
theorem isPage_laid {f : Frm} (h1 : f.kind.toNat ≤ 63) (h2 : f.data.length ≤ 125) : isPage (laid f) = true := by
  unfold isPage
  rw [guess_laid h1 h2, laid_len f h2, laid_1, ofNat_toNat _ (by omega)]
  simp [h2]
theorem take_laid {f : Frm} (h1 : f.kind.toNat ≤ 63) (h2 : f.data.length ≤ 125) : take (laid f) = (f, 0) := by
  unfold take; rw [if_pos (isPage_laid h1 h2), guess_laid h1 h2]
theorem isPage_props {b : Bs} (h : isPage b = true) : b.length = 128 ∧ (b.getD 1 0).toNat ≤ 125 ∧ laid (guess b) = b := by
  unfold isPage at h
  simp only [Bool.and_eq_true, decide_eq_true_eq] at h
  exact ⟨h.1.1, h.1.2, h.2⟩
theorem guess_small (b : Bs) (h : b.length = 128) (h1 : (b.getD 1 0).toNat ≤ 125) : (guess b).kind.toNat ≤ 63 ∧ (guess b).data.length = (b.getD 1 0).toNat := by
  unfold guess
  refine ⟨?_, ?_⟩
  · simp only; rw [ofNat_toNat _ (by omega)]; omega
  · simp only [List.length_take, List.length_drop, h]; omega
theorem last_laid (f : Frm) (h : f.data.length ≤ 125) : (laid f).getD 127 0 = 90 := by
  show (UInt8.ofNat (headN f) :: UInt8.ofNat f.data.length :: (f.data ++ (List.replicate (125 - f.data.length) 0 ++ [90]))).getD (125 + 1 + 1) 0 = 90
  rw [List.getD_cons_succ, List.getD_cons_succ, List.getD_eq_getElem?_getD, List.getElem?_append_right (by omega), List.getElem?_append_right (by simp)]
  simp
/-- a page is told by its last byte -/
theorem isPage_last {b : Bs} (h : isPage b = true) : b.getD 127 0 = 90 := by
  obtain ⟨h1, h2, h3⟩ := isPage_props h
  obtain ⟨_, g2⟩ := guess_small b h1 h2
  rw [← h3]
  exact last_laid _ (by omega)
theorem torn {b : Bs} (k : Nat) (hk : k < 128) (hb : b.length = 128) : isPage (b.take k ++ (List.replicate 128 255).drop k) = false := by
  cases h : isPage (b.take k ++ (List.replicate 128 255).drop k) with
  | false => rfl
  | true =>
    have := isPage_last h
    rw [List.getD_eq_getElem?_getD, List.getElem?_append_right (by simp; omega)] at this
    simp only [List.length_take, hb, List.getElem?_drop, List.getElem?_replicate] at this
    rw [if_pos (by omega)] at this
    simp at this

/-- the pages of bytes -/
def pagesF (kind : UInt8) : Nat → Bool → Bs → List Bs
  | 0, _, _ => []
  | n + 1, first, b => laid ⟨kind, first, decide (b.length ≤ 125), b.take 125⟩ :: (if b.length ≤ 125 then [] else pagesF kind n false (b.drop 125))
def pages (kind : UInt8) (b : Bs) : List Bs := pagesF kind (b.length / 125 + 1) true b
def splitE (kind : UInt8) (b : Bs) : Nat := if 63 < kind.toNat then 1 else if 8000 < b.length then 4 else 0
def split (kind : UInt8) (b : Bs) : List Bs × Nat := if splitE kind b = 0 then (pages kind b, 0) else ([], splitE kind b)
theorem pagesF_fuel (kind : UInt8) : ∀ (n m : Nat) (first : Bool) (b : Bs), b.length / 125 < n → b.length / 125 < m → pagesF kind n first b = pagesF kind m first b
  | 0, _, _, b, h, _ => by omega
  | _, 0, _, b, _, h => by omega
  | n + 1, m + 1, first, b, h1, h2 => by
    unfold pagesF
    congr 1
    split
    · rfl
    · rename_i hb
      exact pagesF_fuel kind n m false (b.drop 125) (by rw [List.length_drop]; omega) (by rw [List.length_drop]; omega)
/-- what is left to split -/
def rest (kind : UInt8) (first : Bool) (b : Bs) : List Bs := pagesF kind (b.length / 125 + 1) first b
theorem rest_step (kind : UInt8) (first : Bool) (b : Bs) : rest kind first b = laid ⟨kind, first, decide (b.length ≤ 125), b.take 125⟩ :: (if b.length ≤ 125 then [] else rest kind false (b.drop 125)) := by
  unfold rest
  conv => lhs; unfold pagesF
  congr 1
  split
  · rfl
  · exact pagesF_fuel kind _ _ false _ (by rw [List.length_drop]; omega) (by omega)

/-- reading on from page number i (of pages l, all told), what came so far: ok, kind, bytes, pages -/
def joinF : Nat → UInt8 → Bs → List Bs → (UInt8 × Bs × Nat) × Nat
  | _, _, _, [] => ((0, [], 0), 90)
  | i, k, all, p :: l => if 64 ≤ i then ((0, [], 0), 90)
    else if !isPage p || (guess p).first != decide (i = 0) || (decide (0 < i) && (guess p).kind != k) || (!(guess p).last && decide ((guess p).data.length ≠ 125)) then ((0, [], 0), 90)
    else if (guess p).last then (((guess p).kind, all ++ (guess p).data, i + 1), 0)
    else joinF (i + 1) (guess p).kind (all ++ (guess p).data) l
def join (l : List Bs) : (UInt8 × Bs × Nat) × Nat := joinF 0 0 [] l
theorem joinF_page (i : Nat) (k : UInt8) (all : Bs) (f : Frm) (l : List Bs) (h1 : f.kind.toNat ≤ 63) (h2 : f.data.length ≤ 125) (hi : i < 64) (hf : f.first = decide (i = 0)) (hk : 0 < i → f.kind = k) (hl : f.last = false → f.data.length = 125) :
    joinF i k all (laid f :: l) = if f.last then ((f.kind, all ++ f.data, i + 1), 0) else joinF (i + 1) f.kind (all ++ f.data) l := by
  rw [joinF, guess_laid h1 h2, isPage_laid h1 h2, if_neg (by omega), if_neg ?_]
  rw [hf]
  simp
  refine ⟨fun h0 => hk h0, fun h => ?_⟩
  exact hl h
/-- what was split is joined, whatever stands behind -/
theorem join_rest (kind : UInt8) (hk : kind.toNat ≤ 63) (behind : List Bs) : ∀ (n : Nat) (i : Nat) (all b : Bs), b.length ≤ 125 * n → b.length + 125 * i ≤ 8000 → i < 64 →
    joinF i kind all (rest kind (decide (i = 0)) b ++ behind) = ((kind, all ++ b, i + (rest kind (decide (i = 0)) b).length), 0) := by
  intro n
  induction n with
  | zero =>
    intro i all b hb _ hi
    have h0 : b = [] := List.eq_nil_of_length_eq_zero (by omega)
    subst h0
    rw [rest_step]
    simp only [List.length_nil, Nat.zero_le, decide_true, if_true, List.cons_append, List.nil_append]
    rw [joinF_page i kind all _ behind hk (by simp) hi rfl (fun _ => rfl) (by simp)]
    simp
  | succ n ih =>
    intro i all b hb hl hi
    rw [rest_step, List.cons_append, joinF_page i kind all _ _ hk (by simp; omega) hi rfl (fun _ => rfl) (by simp; omega)]
    by_cases h : b.length ≤ 125
    · simp [h, List.take_of_length_le h]
    · have hi1 : decide (i + 1 = 0) = false := by simp
      have := ih (i + 1) (all ++ b.take 125) (b.drop 125) (by rw [List.length_drop]; omega) (by rw [List.length_drop]; omega) (by omega)
      rw [hi1] at this
      simp only [h, decide_false, if_false, Bool.false_eq_true]
      rw [this, List.append_assoc, List.take_append_drop, List.length_cons, Nat.add_assoc, Nat.add_comm 1]
theorem join_split (kind : UInt8) (b : Bs) (hk : kind.toNat ≤ 63) (hb : b.length ≤ 8000) (behind : List Bs) : join (pages kind b ++ behind) = ((kind, b, (pages kind b).length), 0) := by
  have := join_rest kind hk behind (b.length / 125 + 1) 0 [] b (by omega) (by omega) (by omega)
  rw [show decide (0 = 0) = true from rfl] at this
  have e : joinF 0 kind [] (rest kind true b ++ behind) = join (pages kind b ++ behind) := by
    show _ = joinF 0 0 [] (rest kind true b ++ behind)
    rw [rest_step, List.cons_append]
    rw [joinF_page 0 kind [] _ _ hk (by simp; omega) (by omega) rfl (by omega) (by simp; omega), joinF_page 0 0 [] _ _ hk (by simp; omega) (by omega) rfl (by omega) (by simp; omega)]
  rw [← e, this]
  simp only [List.nil_append, Nat.zero_add]
  rfl
/-- .. and no beginning of the pages is -/
theorem join_cut (kind : UInt8) (hk : kind.toNat ≤ 63) : ∀ (c : Nat) (i : Nat) (all b : Bs), c < (rest kind (decide (i = 0)) b).length → joinF i kind all ((rest kind (decide (i = 0)) b).take c) = ((0, [], 0), 90) := by
  intro c
  induction c with
  | zero => intro i all b _; rfl
  | succ c ih =>
    intro i all b hc
    rw [rest_step] at hc ⊢
    by_cases h : b.length ≤ 125
    · rw [if_pos h] at hc; simp at hc
    · rw [if_neg h] at hc ⊢
      rw [List.take_succ_cons]
      by_cases hi : i < 64
      · rw [joinF_page i kind all _ _ hk (by simp; omega) hi rfl (fun _ => rfl) (by simp; omega)]
        simp only [h, decide_false, if_false, Bool.false_eq_true]
        have hi1 : decide (i + 1 = 0) = false := by simp
        have := ih (i + 1) (all ++ b.take 125) (b.drop 125) (by rw [hi1]; simpa using hc)
        rw [hi1] at this
        exact this
      · rw [joinF, if_pos (by omega)]
theorem join_begin (kind : UInt8) (b : Bs) (hk : kind.toNat ≤ 63) (c : Nat) (hc : c < (pages kind b).length) : join ((pages kind b).take c) = ((0, [], 0), 90) := by
  have := join_cut kind hk c 0 [] b hc
  rw [show decide (0 = 0) = true from rfl] at this
  cases c with
  | zero => rfl
  | succ c =>
    have e : joinF 0 kind [] ((rest kind true b).take (c + 1)) = join ((pages kind b).take (c + 1)) := by
      show _ = joinF 0 0 [] ((rest kind true b).take (c + 1))
      rw [rest_step, List.take_succ_cons]
      rw [joinF_page 0 kind [] _ _ hk (by simp; omega) (by omega) rfl (by omega) (by simp; omega), joinF_page 0 0 [] _ _ hk (by simp; omega) (by omega) rfl (by omega) (by simp; omega)]
    rw [← e, this]
theorem rest_len (kind : UInt8) : ∀ (n : Nat) (first : Bool) (b : Bs), b.length ≤ 125 * n → (rest kind first b).length = max 1 ((b.length + 124) / 125) := by
  intro n
  induction n with
  | zero =>
    intro first b hb
    rw [rest_step, if_pos (by omega)]
    simp
    omega
  | succ n ih =>
    intro first b hb
    rw [rest_step]
    by_cases h : b.length ≤ 125
    · rw [if_pos h]; simp; omega
    · rw [if_neg h, List.length_cons, ih false (b.drop 125) (by rw [List.length_drop]; omega), List.length_drop]
      omega
theorem pages_len (kind : UInt8) (b : Bs) : (pages kind b).length = max 1 ((b.length + 124) / 125) := rest_len kind (b.length / 125 + 1) true b (by omega)
/-- page number j -/
theorem rest_at (kind : UInt8) : ∀ (j : Nat) (first : Bool) (b : Bs), j < (rest kind first b).length → (rest kind first b)[j]? = some (laid ⟨kind, first && decide (j = 0), decide (b.length ≤ 125 * (j + 1)), (b.drop (125 * j)).take 125⟩) := by
  intro j
  induction j with
  | zero => intro first b _; rw [rest_step]; simp
  | succ j ih =>
    intro first b hj
    rw [rest_step] at hj ⊢
    by_cases h : b.length ≤ 125
    · rw [if_pos h] at hj; simp at hj
    · rw [if_neg h] at hj ⊢
      rw [List.getElem?_cons_succ, ih false (b.drop 125) (by simpa using hj), List.length_drop, List.drop_drop]
      have e1 : (false && decide (j = 0)) = (first && decide (j + 1 = 0)) := by simp
      have e2 : decide (b.length - 125 ≤ 125 * (j + 1)) = decide (b.length ≤ 125 * (j + 1 + 1)) := by
        rcases Nat.lt_or_ge (125 * (j + 1 + 1)) b.length with h | h
        · rw [decide_eq_false (by omega), decide_eq_false (by omega)]
        · rw [decide_eq_true (by omega), decide_eq_true (by omega)]
      rw [e1, e2, show 125 + 125 * j = 125 * (j + 1) by omega]
theorem pages_at (kind : UInt8) (b : Bs) (j : Nat) (h : j < (pages kind b).length) : (pages kind b)[j]? = some (laid ⟨kind, decide (j = 0), decide (b.length ≤ 125 * (j + 1)), (b.drop (125 * j)).take 125⟩) := by
  have := rest_at kind j true b h
  rw [Bool.true_and] at this
  exact this
end Go.PagM

end
section
namespace Go.RecM
abbrev Bs := List UInt8
/-- the many lowest bytes of n, the least significant one first (as Cod.le) -/
def le (n : Nat) : Nat → Bs
  | 0 => []
  | k + 1 => le n k ++ [UInt8.ofNat (n / 2 ^ (8 * k))]
theorem le_len (n k : Nat) : (le n k).length = k := by induction k <;> simp [le, *]
def num : Bs → Nat
  | [] => 0
  | c :: r => c.toNat + 256 * num r
theorem num_snoc (l : Bs) (c : UInt8) : num (l ++ [c]) = num l + 2 ^ (8 * l.length) * c.toNat := by
  induction l with
  | nil => simp [num]
  | cons d r ih =>
    have e : 2 ^ (8 * (r.length + 1)) = 256 * 2 ^ (8 * r.length) := by rw [Nat.mul_add, Nat.pow_add]; simp [Nat.mul_comm]
    rw [List.cons_append, num, ih, num, List.length_cons, e, Nat.mul_add, Nat.mul_assoc]
    omega
theorem num_le (n k : Nat) : num (le n k) = n % 2 ^ (8 * k) := by
  induction k with
  | zero => simp [le, num, Nat.mod_one]
  | succ k ih =>
    rw [le, num_snoc, ih, le_len]
    have e : 2 ^ (8 * (k + 1)) = 2 ^ (8 * k) * 256 := by rw [Nat.mul_add, Nat.pow_add]
    rw [e, Nat.mod_mul]
    simp
structure Nte where
  kind : UInt8
  addr : Nat
  seq : Nat
  sum : Bs
  kn : Nat
  data : Bs
def zsum : Bs := List.replicate 32 0
def zeroN : Nte := ⟨0, 0, 0, zsum, 0, []⟩
/-- the fields are of their widths -/
structure Fits (n : Nte) : Prop where
  addr : n.addr < 4294967296
  seq : n.seq < 18446744073709551616
  sum : n.sum.length = 32
  kn : n.kn < 4294967296
def right (n : Nte) : Bool :=
  decide (n.data.length ≤ 300) &&
    (if n.kind = 1 then true
     else if n.kind = 2 then decide (n.sum = zsum) && decide (n.kn = 0) && decide (n.data.length = 0)
     else if n.kind = 3 then decide (n.addr = 0) && (decide (n.sum = zsum) && decide (n.kn = 0)) && decide (n.data.length = 0)
     else if n.kind = 4 then decide (n.addr = 0) && decide (n.seq = 0) && decide (0 < n.data.length)
     else false)
def tail (n : Nte) : Bs := n.sum ++ (le n.kn 4 ++ (le n.data.length 2 ++ n.data))
def laid (n : Nte) : Bs :=
  n.kind :: (if n.kind = 1 then le n.addr 4 ++ (le n.seq 8 ++ tail n)
    else if n.kind = 2 then le n.addr 4 ++ le n.seq 8
    else if n.kind = 3 then le n.seq 8
    else tail n)
def lay (n : Nte) : Bs × Nat := if right n then (laid n, 0) else ([], 1)
theorem right_data {n : Nte} (h : right n = true) : n.data.length ≤ 300 := by
  unfold right at h
  simp only [Bool.and_eq_true, decide_eq_true_eq] at h
  exact h.1
theorem right_kind {n : Nte} (h : right n = true) : n.kind = 1 ∨ n.kind = 2 ∨ n.kind = 3 ∨ n.kind = 4 := by
  unfold right at h
  simp only [Bool.and_eq_true] at h
  have h2 := h.2
  split at h2
  · exact .inl ‹_›
  · split at h2
    · exact .inr (.inl ‹_›)
    · split at h2
      · exact .inr (.inr (.inl ‹_›))
      · split at h2
        · exact .inr (.inr (.inr ‹_›))
        · cases h2
theorem tail_len {n : Nte} (f : Fits n) : (tail n).length = 38 + n.data.length := by
  unfold tail
  simp only [List.length_append, le_len, f.sum]
  omega
/-- how long a note's bytes are -/
def sizeN (n : Nte) : Nat := if n.kind = 1 then 51 + n.data.length else if n.kind = 2 then 13 else if n.kind = 3 then 9 else 39 + n.data.length
theorem laid_len {n : Nte} (f : Fits n) : (laid n).length = sizeN n := by
  unfold laid sizeN
  split
  · simp only [List.length_cons, List.length_append, le_len, tail_len f]; omega
  · split
    · simp [le_len]
    · split
      · simp [le_len]
      · simp only [List.length_cons, tail_len f]; omega
theorem num_take (n k : Nat) (l : Bs) (h : n < 2 ^ (8 * k)) : num ((le n k ++ l).take k) = n := by
  rw [List.take_append_of_le_length (by rw [le_len]; omega), List.take_of_length_le (by rw [le_len]; omega), num_le, Nat.mod_eq_of_lt h]
theorem drop_le (n k : Nat) (l : Bs) : (le n k ++ l).drop k = l := by
  rw [List.drop_append_of_le_length (by rw [le_len]; omega), List.drop_of_length_le (by rw [le_len]; omega), List.nil_append]
theorem data_nil {l : Bs} (h : l.length = 0) : l = [] := List.eq_nil_of_length_eq_zero h
theorem tail_inj {m n : Nte} (fm : Fits m) (fn : Fits n) (h : tail m = tail n) : m.sum = n.sum ∧ m.kn = n.kn ∧ m.data = n.data := by
  unfold tail at h
  obtain ⟨h1, h2⟩ := List.append_inj h (by rw [fm.sum, fn.sum])
  obtain ⟨h3, h4⟩ := List.append_inj h2 (by rw [le_len, le_len])
  obtain ⟨h5, h6⟩ := List.append_inj h4 (by rw [le_len, le_len])
  refine ⟨h1, ?_, h6⟩
  have := congrArg num h3
  rw [num_le, num_le, Nat.mod_eq_of_lt (by have := fm.kn; omega), Nat.mod_eq_of_lt (by have := fn.kn; omega)] at this
  exact this
theorem le_inj {a b k : Nat} (ha : a < 2 ^ (8 * k)) (hb : b < 2 ^ (8 * k)) (h : le a k = le b k) : a = b := by
  have := congrArg num h
  rw [num_le, num_le, Nat.mod_eq_of_lt ha, Nat.mod_eq_of_lt hb] at this
  exact this
theorem right_2 {n : Nte} (h : right n = true) (k : n.kind = 2) : n.sum = zsum ∧ n.kn = 0 ∧ n.data = [] := by
  unfold right at h
  rw [if_neg (by rw [k]; decide), if_pos k] at h
  simp only [Bool.and_eq_true, decide_eq_true_eq] at h
  exact ⟨h.2.1.1, h.2.1.2, data_nil h.2.2⟩
theorem right_3 {n : Nte} (h : right n = true) (k : n.kind = 3) : n.addr = 0 ∧ n.sum = zsum ∧ n.kn = 0 ∧ n.data = [] := by
  unfold right at h
  rw [if_neg (by rw [k]; decide), if_neg (by rw [k]; decide), if_pos k] at h
  simp only [Bool.and_eq_true, decide_eq_true_eq] at h
  exact ⟨h.2.1.1, h.2.1.2.1, h.2.1.2.2, data_nil h.2.2⟩
theorem right_4 {n : Nte} (h : right n = true) (k : n.kind = 4) : n.addr = 0 ∧ n.seq = 0 ∧ 0 < n.data.length := by
  unfold right at h
  rw [if_neg (by rw [k]; decide), if_neg (by rw [k]; decide), if_neg (by rw [k]; decide), if_pos k] at h
  simp only [Bool.and_eq_true, decide_eq_true_eq] at h
  exact ⟨h.2.1.1, h.2.1.2, h.2.2⟩
/-- bytes are of one note only -/
theorem laid_inj {m n : Nte} (fm : Fits m) (fn : Fits n) (hm : right m = true) (hn : right n = true) (h : laid m = laid n) : m = n := by
  have hk : m.kind = n.kind := by
    unfold laid at h
    simp only [List.cons.injEq] at h
    exact h.1
  have hk' := right_kind hm
  unfold laid at h
  rw [← hk] at h
  simp only [List.cons.injEq, true_and] at h
  have a1 := fm.addr
  have a2 := fn.addr
  have s1 := fm.seq
  have s2 := fn.seq
  suffices m.addr = n.addr ∧ m.seq = n.seq ∧ m.sum = n.sum ∧ m.kn = n.kn ∧ m.data = n.data by
    obtain ⟨e1, e2, e3, e4, e5⟩ := this
    cases m
    cases n
    simp_all
  rcases hk' with k | k | k | k
  · rw [if_pos k, if_pos k] at h
    obtain ⟨h1, h2⟩ := List.append_inj h (by rw [le_len, le_len])
    obtain ⟨h3, h4⟩ := List.append_inj h2 (by rw [le_len, le_len])
    obtain ⟨t1, t2, t3⟩ := tail_inj fm fn h4
    exact ⟨le_inj (by omega) (by omega) h1, le_inj (by omega) (by omega) h3, t1, t2, t3⟩
  · rw [if_neg (by rw [k]; decide), if_pos k, if_neg (by rw [k]; decide), if_pos k] at h
    obtain ⟨h1, h2⟩ := List.append_inj h (by rw [le_len, le_len])
    obtain ⟨x1, x2, x3⟩ := right_2 hm k
    obtain ⟨y1, y2, y3⟩ := right_2 hn (hk ▸ k)
    exact ⟨le_inj (by omega) (by omega) h1, le_inj (by omega) (by omega) h2, x1.trans y1.symm, x2.trans y2.symm, x3.trans y3.symm⟩
  · rw [if_neg (by rw [k]; decide), if_neg (by rw [k]; decide), if_pos k, if_neg (by rw [k]; decide), if_neg (by rw [k]; decide), if_pos k] at h
    obtain ⟨x0, x1, x2, x3⟩ := right_3 hm k
    obtain ⟨y0, y1, y2, y3⟩ := right_3 hn (hk ▸ k)
    exact ⟨x0.trans y0.symm, le_inj (by omega) (by omega) h, x1.trans y1.symm, x2.trans y2.symm, x3.trans y3.symm⟩
  · rw [if_neg (by rw [k]; decide), if_neg (by rw [k]; decide), if_neg (by rw [k]; decide), if_neg (by rw [k]; decide), if_neg (by rw [k]; decide), if_neg (by rw [k]; decide)] at h
    obtain ⟨x0, x1, _⟩ := right_4 hm k
    obtain ⟨y0, y1, _⟩ := right_4 hn (hk ▸ k)
    obtain ⟨t1, t2, t3⟩ := tail_inj fm fn h
    exact ⟨x0.trans y0.symm, x1.trans y1.symm, t1, t2, t3⟩
/-- bytes that are a note's -/
def IsNote (b : Bs) : Prop := ∃ n, Fits n ∧ right n = true ∧ laid n = b
open Classical in
noncomputable def take (b : Bs) : Nte × Nat := if h : IsNote b then (h.choose, 0) else (zeroN, 100)
theorem take_none {b : Bs} (h : ¬ IsNote b) : take b = (zeroN, 100) := by unfold take; rw [dif_neg h]
theorem take_laid {n : Nte} (f : Fits n) (h : right n = true) : take (laid n) = (n, 0) := by
  have hi : IsNote (laid n) := ⟨n, f, h, rfl⟩
  unfold take
  rw [dif_pos hi]
  obtain ⟨c1, c2, c3⟩ := hi.choose_spec
  rw [laid_inj c1 f c2 h c3]
theorem laid_ne {n : Nte} : laid n ≠ [] := by unfold laid; simp
def pagesN (n : Nte) : Nat := if right n then ((laid n).length + 124) / 125 else 0
end Go.RecM

end
section
namespace Go.FlaM
abbrev Bs := List UInt8

/-- an operation that is not safe: page -1: a segment erased -/
structure Act where
  seg : Nat
  page : Int
  b : Bs
structure FS where
  safe : List (List Bs)
  L : List Act
  wear : List Nat
  off : Bool
  left : Int
  n : Nat
  pp : Nat
def blank : Bs := List.replicate 128 255
theorem blank_len : blank.length = 128 := by simp [blank]
def there (s : FS) (seg page : Int) : Bool := decide (0 ≤ seg ∧ seg < (s.safe.length : Int) ∧ 0 ≤ page ∧ page < (s.pp : Int))
def pageAt (safe : List (List Bs)) (i k : Nat) : Bs := (safe.getD i []).getD k []
/-- what the last operation on it made of a page, the list the other way round -/
def nowR : List Act → Nat → Nat → Option Bs
  | [], _, _ => none
  | a :: r, i, k => if a.seg = i ∧ a.page = (k : Int) then some a.b else if a.seg = i ∧ a.page < 0 then some blank else nowR r i k
def now (s : FS) (i k : Nat) : Bs := (nowR s.L.reverse i k).getD (pageAt s.safe i k)
def trip (s : FS) : FS := if s.left = 0 then { s with off := true, left := -1 } else s
def okd (s : FS) : FS := { s with n := s.n + 1, left := if 0 < s.left then s.left - 1 else s.left }
def progF (s : FS) (seg page : Int) (b : Bs) : FS × Nat :=
  if there s seg page = false ∨ b.length ≠ 128 then (s, 1)
  else if s.off then (s, 6)
  else if now s seg.toNat page.toNat ≠ blank then (s, 70)
  else if (trip s).off then (trip s, 6)
  else (okd { trip s with L := (trip s).L ++ [⟨seg.toNat, page, b⟩] }, 0)
def bump (l : List Nat) (i : Nat) : List Nat := l.set i (l.getD i 0 + 1)
def erase (s : FS) (seg : Int) : FS × Nat :=
  if there s seg 0 = false then (s, 1)
  else if (trip s).off then (trip s, 6)
  else (okd { trip s with L := (trip s).L ++ [⟨seg.toNat, -1, []⟩], wear := bump (trip s).wear seg.toNat }, 0)
def setPage (safe : List (List Bs)) (i k : Nat) (b : Bs) : List (List Bs) := safe.set i ((safe.getD i []).set k b)
/-- the first m pages of a segment are erased -/
def clearTo (safe : List (List Bs)) (i : Nat) : Nat → List (List Bs)
  | 0 => safe
  | m + 1 => setPage (clearTo safe i m) i m blank
/-- one operation, with its fate -/
def doOne (pp : Nat) (safe : List (List Bs)) (a : Act) (fate : Int) : List (List Bs) :=
  if 0 ≤ a.page then setPage safe a.seg a.page.toNat (a.b.take (min fate.toNat 128) ++ (pageAt safe a.seg a.page.toNat).drop (min fate.toNat 128))
  else clearTo safe a.seg (min fate.toNat pp)
/-- operations, from number i on, with their fates -/
def doAll (pp : Nat) (fates : List Int) : List (List Bs) → Nat → List Act → List (List Bs)
  | safe, _, [] => safe
  | safe, i, a :: r => doAll pp fates (doOne pp safe a (fates.getD i 0)) (i + 1) r
def some' (s : FS) (fates : List Int) : FS := { s with safe := doAll s.pp fates s.safe 0 s.L, L := [] }
def barrier (s : FS) : FS × Nat :=
  if (trip s).off then (trip s, 6) else (okd (some' (trip s) (List.replicate (trip s).L.length 128)), 0)
def fresh (segs pages : Nat) : FS := ⟨List.replicate segs (List.replicate pages blank), [], List.replicate segs 0, false, -1, 0, pages⟩
/-- it hangs together -/
structure Ok (s : FS) (N : Nat) : Prop where
  segs : s.safe.length ≤ 256
  pp : 1 ≤ s.pp ∧ s.pp ≤ 64
  rows : ∀ i, i < s.safe.length → (s.safe.getD i []).length = s.pp
  pages : ∀ i k, i < s.safe.length → k < s.pp → (pageAt s.safe i k).length = 128
  wear : s.wear.length = s.safe.length
  acts : ∀ a ∈ s.L, a.seg < s.safe.length ∧ ((0 ≤ a.page ∧ a.page < (s.pp : Int) ∧ a.b.length = 128) ∨ (a.page = -1 ∧ a.b = []))
  left : -1 ≤ s.left ∧ s.left ≤ 9223372036854775807
  n : s.n ≤ N
  log : s.L.length ≤ s.n
  worn : ∀ i, s.wear.getD i 0 ≤ s.n

theorem getD_set_self {α : Type} (l : List α) (i : Nat) (x d : α) (h : i < l.length) : (l.set i x).getD i d = x := by simp [List.getD, h]
theorem getD_set_ne {α : Type} (l : List α) (i j : Nat) (x d : α) (h : i ≠ j) : (l.set i x).getD j d = l.getD j d := by simp [List.getD, List.getElem?_set_ne h]
theorem setPage_len (safe : List (List Bs)) (i k : Nat) (b : Bs) : (setPage safe i k b).length = safe.length := by simp [setPage]
theorem setPage_row (safe : List (List Bs)) (i k j : Nat) (b : Bs) : ((setPage safe i k b).getD j []).length = (safe.getD j []).length := by
  unfold setPage
  by_cases h : i = j
  · subst h
    by_cases hl : i < safe.length
    · rw [getD_set_self _ _ _ _ hl, List.length_set]
    · rw [List.set_eq_of_length_le (by omega)]
  · rw [getD_set_ne _ _ _ _ _ h]
theorem setPage_at (safe : List (List Bs)) (i k i' k' : Nat) (b : Bs) (hi : i < safe.length) (hk : k < (safe.getD i []).length) : pageAt (setPage safe i k b) i' k' = if i = i' ∧ k = k' then b else pageAt safe i' k' := by
  unfold pageAt setPage
  by_cases h : i = i'
  · subst h
    rw [getD_set_self _ _ _ _ hi]
    by_cases h2 : k = k'
    · subst h2
      rw [if_pos ⟨rfl, rfl⟩, getD_set_self _ _ _ _ hk]
    · rw [if_neg (fun h => h2 h.2), getD_set_ne _ _ _ _ _ h2]
  · rw [if_neg (fun h' => h h'.1), getD_set_ne _ _ _ _ _ h]
theorem clearTo_len (safe : List (List Bs)) (i m : Nat) : (clearTo safe i m).length = safe.length := by
  induction m with
  | zero => rfl
  | succ m ih => rw [clearTo, setPage_len, ih]
theorem clearTo_row (safe : List (List Bs)) (i m j : Nat) : ((clearTo safe i m).getD j []).length = (safe.getD j []).length := by
  induction m with
  | zero => rfl
  | succ m ih => rw [clearTo, setPage_row, ih]
theorem clearTo_at (safe : List (List Bs)) (i m i' k' : Nat) (hi : i < safe.length) (hm : m ≤ (safe.getD i []).length) : pageAt (clearTo safe i m) i' k' = if i = i' ∧ k' < m then blank else pageAt safe i' k' := by
  induction m with
  | zero => simp [clearTo]
  | succ m ih =>
    rw [clearTo, setPage_at _ _ _ _ _ _ (by rw [clearTo_len]; exact hi) (by rw [clearTo_row]; omega), ih (by omega)]
    by_cases h : i = i'
    · subst h
      by_cases h2 : m = k'
      · subst h2; simp
      · by_cases h3 : k' < m
        · rw [if_neg (fun h => h2 h.2), if_pos ⟨rfl, h3⟩, if_pos ⟨rfl, by omega⟩]
        · rw [if_neg (fun h => h2 h.2), if_neg (fun h => h3 h.2), if_neg (fun h => by omega)]
    · simp [h]

theorem Ok.more {s : FS} {N M : Nat} (h : Ok s N) (hNM : N ≤ M) : Ok s M := ⟨h.segs, h.pp, h.rows, h.pages, h.wear, h.acts, h.left, Nat.le_trans h.n hNM, h.log, h.worn⟩
theorem trip_safe (s : FS) : (trip s).safe = s.safe ∧ (trip s).L = s.L ∧ (trip s).wear = s.wear ∧ (trip s).n = s.n ∧ (trip s).pp = s.pp := by unfold trip; split <;> exact ⟨rfl, rfl, rfl, rfl, rfl⟩
/-- what is kept of pages by operations that were done in part -/
structure Shape (safe : List (List Bs)) (n pp : Nat) : Prop where
  len : safe.length = n
  rows : ∀ i, i < n → (safe.getD i []).length = pp
  pages : ∀ i k, i < n → k < pp → (pageAt safe i k).length = 128
theorem shape_set {safe : List (List Bs)} {n pp : Nat} (h : Shape safe n pp) (i k : Nat) (hi : i < n) (hk : k < pp) (b : Bs) (hb : b.length = 128) : Shape (setPage safe i k b) n pp := by
  refine ⟨by rw [setPage_len, h.len], fun j hj => by rw [setPage_row, h.rows j hj], fun j m hj hm => ?_⟩
  rw [setPage_at _ _ _ _ _ _ (by rw [h.len]; exact hi) (by rw [h.rows i hi]; exact hk)]
  split
  · exact hb
  · exact h.pages j m hj hm
theorem shape_clear {safe : List (List Bs)} {n pp : Nat} (h : Shape safe n pp) (i m : Nat) (hi : i < n) (hm : m ≤ pp) : Shape (clearTo safe i m) n pp := by
  induction m with
  | zero => exact h
  | succ m ih => exact shape_set (ih (by omega)) i m hi (by omega) blank blank_len
theorem shape_one {safe : List (List Bs)} {n pp : Nat} (h : Shape safe n pp) (a : Act) (ha : a.seg < n ∧ ((0 ≤ a.page ∧ a.page < (pp : Int) ∧ a.b.length = 128) ∨ (a.page = -1 ∧ a.b = []))) (fate : Int) : Shape (doOne pp safe a fate) n pp := by
  unfold doOne
  split
  · rcases ha.2 with ⟨h1, h2, h3⟩ | ⟨h1, _⟩
    · refine shape_set h _ _ ha.1 (by omega) _ ?_
      have := h.pages a.seg a.page.toNat ha.1 (by omega)
      rw [List.length_append, List.length_take, List.length_drop, this, h3]; omega
    · omega
  · exact shape_clear h _ _ ha.1 (by omega)
theorem shape_all {n pp : Nat} (fates : List Int) : ∀ (L : List Act) (safe : List (List Bs)) (i : Nat), Shape safe n pp → (∀ a ∈ L, a.seg < n ∧ ((0 ≤ a.page ∧ a.page < (pp : Int) ∧ a.b.length = 128) ∨ (a.page = -1 ∧ a.b = []))) → Shape (doAll pp fates safe i L) n pp
  | [], safe, i, h, _ => h
  | a :: L, safe, i, h, ha => shape_all fates L _ (i + 1) (shape_one h a (ha a (List.mem_cons_self ..)) _) (fun x hx => ha x (List.mem_cons_of_mem _ hx))
theorem Ok.shape {s : FS} {N : Nat} (h : Ok s N) : Shape s.safe s.safe.length s.pp := ⟨rfl, h.rows, h.pages⟩
end Go.FlaM

end
section
namespace Go.LogM
abbrev Bs := List UInt8
theorem joinF_more (q : Bs) (hq : PagM.isPage q = false) (r : List Bs) : ∀ (l : List Bs) (i : Nat) (k : UInt8) (all : Bs), PagM.joinF i k all l = ((0, [], 0), 90) → PagM.joinF i k all (l ++ q :: r) = ((0, [], 0), 90)
  | [], i, k, all, _ => by
    rw [List.nil_append, PagM.joinF]
    split
    · rfl
    · rw [if_pos (by simp [hq])]
  | p :: l, i, k, all, h => by
    rw [List.cons_append]
    rw [PagM.joinF] at h ⊢
    split
    · rfl
    · rename_i h1
      rw [if_neg h1] at h
      split
      · rfl
      · rename_i h2
        rw [if_neg h2] at h
        split
        · rename_i h3
          rw [if_pos h3] at h
          simp at h
        · rename_i h3
          rw [if_neg h3] at h
          exact joinF_more q hq r l _ _ _ h
/-- the first page of a segment -/
def hdr (s : Nat) : Bs := PagM.laid ⟨1, true, true, RecM.le s 8⟩
theorem blank_page : PagM.isPage FlaM.blank = false := by simp [PagM.isPage, FlaM.blank]
def notePages (n : RecM.Nte) : List Bs := PagM.pages 2 (RecM.laid n)
theorem notePages_pos (n : RecM.Nte) : 0 < (notePages n).length := by unfold notePages; rw [PagM.pages_len]; omega
theorem notePages_page (n : RecM.Nte) : ∀ p ∈ notePages n, PagM.isPage p = true ∧ p.length = 128 := by
  intro p hp
  obtain ⟨j, hj, rfl⟩ := List.getElem_of_mem hp
  have h := PagM.pages_at 2 (RecM.laid n) j hj
  have e : (notePages n)[j] = PagM.laid ⟨2, decide (j = 0), decide ((RecM.laid n).length ≤ 125 * (j + 1)), ((RecM.laid n).drop (125 * j)).take 125⟩ := (List.getElem?_eq_some_iff.1 h).2
  rw [e]
  exact ⟨PagM.isPage_laid (by show (2 : UInt8).toNat ≤ 63; decide) (by simp; omega), PagM.laid_len _ (by simp; omega)⟩
theorem laid_small {n : RecM.Nte} (f : RecM.Fits n) (h : RecM.right n = true) : (RecM.laid n).length ≤ 351 := by
  have := RecM.right_data h
  rw [RecM.laid_len f]
  unfold RecM.sizeN
  split
  · omega
  split
  · omega
  split <;> omega
theorem notePages_few {n : RecM.Nte} (f : RecM.Fits n) (h : RecM.right n = true) : (notePages n).length ≤ 3 := by
  have := laid_small f h
  unfold notePages; rw [PagM.pages_len]; omega
/-! ### pages that are as they were, or none -/
structure Plc where
  seg : Int
  page : Int
  pages : Int
structure Good (n : RecM.Nte) : Prop where
  fits : RecM.Fits n
  right : RecM.right n = true
end Go.LogM

end
section
namespace Go.LogM
open FlaM (FS pageAt doAll doOne nowR)
/-- pages of one segment, programmed one behind the other -/
def progsFrom (g : Nat) : Nat → List Bs → List FlaM.Act
  | _, [] => []
  | a, b :: X => ⟨g, (a : Int), b⟩ :: progsFrom g (a + 1) X
theorem progsFrom_snoc (g : Nat) : ∀ (X : List Bs) (a : Nat) (b : Bs), progsFrom g a (X ++ [b]) = progsFrom g a X ++ [⟨g, ((a + X.length : Nat) : Int), b⟩]
  | [], a, b => rfl
  | x :: X, a, b => by
    show _ :: progsFrom g (a + 1) (X ++ [b]) = _
    rw [progsFrom_snoc g X (a + 1) b, List.length_cons, show a + 1 + X.length = a + (X.length + 1) by omega]
    rfl
theorem progsFrom_len (g : Nat) : ∀ (X : List Bs) (a : Nat), (progsFrom g a X).length = X.length
  | [], _ => rfl
  | _ :: X, a => by show (progsFrom g (a + 1) X).length + 1 = _; rw [progsFrom_len g X]; rfl
theorem nowR_progsN (g : Nat) : ∀ (n : Nat) (X : List Bs), X.length = n → ∀ (a j i : Nat), nowR (progsFrom g a X).reverse j i = if j = g ∧ a ≤ i ∧ i < a + X.length then X[i - a]? else none := by
  intro n
  induction n with
  | zero =>
    intro X hX a j i
    obtain rfl := List.eq_nil_of_length_eq_zero hX
    exact (if_neg (by simp <;> omega)).symm
  | succ n ihn =>
    intro Y hY a j i
    obtain ⟨X, b, rfl⟩ : ∃ X b, Y = X ++ [b] := by
      rcases List.eq_nil_or_concat Y with rfl | h
      · simp at hY
      · obtain ⟨l, b, h⟩ := h
        exact ⟨l, b, by rw [h, List.concat_eq_append]⟩
    have ih := ihn X (by simpa using hY)
    rw [progsFrom_snoc, List.reverse_append, List.reverse_singleton, List.singleton_append, FlaM.nowR]
    simp only
    by_cases h : j = g ∧ i = a + X.length
    · obtain ⟨rfl, rfl⟩ := h
      rw [if_pos ⟨rfl, rfl⟩, if_pos ⟨rfl, by omega, by simp⟩, List.getElem?_append_right (by omega), show a + X.length - a - X.length = 0 by omega]
      rfl
    · rw [if_neg (by rintro ⟨rfl, h2⟩; exact h ⟨rfl, by omega⟩), if_neg (by rintro ⟨_, h2⟩; omega), ih]
      by_cases h2 : j = g ∧ a ≤ i ∧ i < a + X.length
      · rw [if_pos h2, if_pos ⟨h2.1, h2.2.1, by simp; omega⟩, List.getElem?_append_left (by omega)]
      · rw [if_neg h2, if_neg]
        rintro ⟨h3, h4, h5⟩
        simp only [List.length_append, List.length_singleton] at h5
        exact h2 ⟨h3, h4, by
          rcases Nat.lt_or_ge i (a + X.length) with h6 | h6
          · exact h6
          · exact absurd ⟨h3, by omega⟩ h⟩
theorem nowR_progs (g : Nat) (X : List Bs) (a j i : Nat) : nowR (progsFrom g a X).reverse j i = if j = g ∧ a ≤ i ∧ i < a + X.length then X[i - a]? else none := nowR_progsN g X.length X rfl a j i
/-- what becomes of them -/
theorem doAll_progs (pp : Nat) (fates : List Int) (g n : Nat) (hg : g < n) : ∀ (X : List Bs) (a k : Nat) (safe : List (List Bs)), FlaM.Shape safe n pp → a + X.length ≤ pp → (∀ x ∈ X, x.length = 128) →
    ∀ j i, pageAt (doAll pp fates safe k (progsFrom g a X)) j i = if j = g ∧ a ≤ i ∧ i < a + X.length then (X.getD (i - a) []).take (min (fates.getD (k + (i - a)) 0).toNat 128) ++ (pageAt safe j i).drop (min (fates.getD (k + (i - a)) 0).toNat 128) else pageAt safe j i
  | [], a, k, safe, _, _, _, j, i => (if_neg (by simp <;> omega)).symm
  | x :: X, a, k, safe, hs, hl, hx, j, i => by
    have hx0 := hx x List.mem_cons_self
    simp only [List.length_cons] at hl
    have hone := FlaM.shape_one hs ⟨g, (a : Int), x⟩ ⟨hg, .inl ⟨by simp, by show (a : Int) < pp; omega, hx0⟩⟩ (fates.getD k 0)
    have e1 : ∀ j i, pageAt (doOne pp safe ⟨g, (a : Int), x⟩ (fates.getD k 0)) j i = if g = j ∧ a = i then x.take (min (fates.getD k 0).toNat 128) ++ (pageAt safe g a).drop (min (fates.getD k 0).toNat 128) else pageAt safe j i := by
      intro j i
      unfold FlaM.doOne
      simp only
      rw [if_pos (by simp), show ((a : Int)).toNat = a by simp]
      exact FlaM.setPage_at _ _ _ _ _ _ (by rw [hs.len]; exact hg) (by rw [hs.rows g hg]; omega)
    show pageAt (doAll pp fates (doOne pp safe ⟨g, (a : Int), x⟩ (fates.getD k 0)) (k + 1) (progsFrom g (a + 1) X)) j i = _
    rw [doAll_progs pp fates g n hg X (a + 1) (k + 1) _ hone (by omega) (fun y hy => hx y (List.mem_cons_of_mem _ hy))]
    by_cases h2 : j = g ∧ a + 1 ≤ i ∧ i < a + 1 + X.length
    · rw [if_pos h2, e1, if_neg (by rintro ⟨_, h4⟩; omega), if_pos ⟨h2.1, by omega, by simp only [List.length_cons]; omega⟩]
      obtain ⟨d, hd⟩ : ∃ d, i = a + 1 + d := ⟨i - (a + 1), by omega⟩
      rw [show i - (a + 1) = d by omega, show i - a = d + 1 by omega, List.getD_cons_succ, show k + 1 + d = k + (d + 1) by omega]
    · rw [if_neg h2, e1]
      by_cases h : g = j ∧ a = i
      · obtain ⟨h3, h4⟩ := h
        rw [if_pos ⟨h3, h4⟩, if_pos ⟨h3.symm, by omega, by simp only [List.length_cons]; omega⟩, show i - a = 0 by omega, h3, h4]
        rfl
      · rw [if_neg h, if_neg]
        rintro ⟨h3, h4, h5⟩
        simp only [List.length_cons] at h5
        rcases Nat.lt_or_ge a i with h6 | h6
        · exact h2 ⟨h3, by omega, by omega⟩
        · exact h ⟨h3.symm, by omega⟩

/-- a flash of M segments behind the first fr ones: F: what is safe on each; X: what is programmed on segment g behind that; er: an Erase of it is not safe -/
structure Phy (s : FS) (fr M : Nat) (F : Nat → List Bs) (g : Nat) (X : List Bs) (er : Bool) : Prop where
  len : s.safe.length = fr + M
  rows : ∀ j, j < M → ∀ i, i < s.pp → pageAt s.safe (fr + j) i = (F j).getD i FlaM.blank
  log : s.L = if er then [⟨fr + g, -1, []⟩] else progsFrom (fr + g) (F g).length X
  erF : er = true → F g = [] ∧ X = []
  gM : g < M ∨ (X = [] ∧ er = false)
  room : ∀ j, j < M → (F j).length ≤ s.pp
  roomX : (F g).length + X.length ≤ s.pp
  pages : (∀ j, ∀ p ∈ F j, p.length = 128) ∧ ∀ p ∈ X, p.length = 128
/-- what is on a segment now -/
def onSeg (F : Nat → List Bs) (g : Nat) (X : List Bs) (j : Nat) : List Bs := if j = g then F j ++ X else F j
theorem getD_append {A B : List Bs} {i : Nat} {d : Bs} : (A ++ B).getD i d = if i < A.length then A.getD i d else B.getD (i - A.length) d := by
  simp only [List.getD_eq_getElem?_getD]
  split
  · rename_i h; rw [List.getElem?_append_left h]
  · rename_i h; rw [List.getElem?_append_right (by omega)]
section
variable {s : FS} {fr M : Nat} {F : Nat → List Bs} {g : Nat} {X : List Bs} {er : Bool}
theorem Phy.now (h : Phy s fr M F g X er) (j i : Nat) (hj : j < M) (hi : i < s.pp) : FlaM.now s (fr + j) i = (onSeg F g X j).getD i FlaM.blank := by
  unfold FlaM.now onSeg
  rw [h.log, h.rows j hj i hi]
  cases er
  · simp only [Bool.false_eq_true, if_false]
    rw [nowR_progs]
    by_cases hjg : j = g
    · subst hjg
      rw [if_pos rfl, getD_append]
      by_cases hin : i < (F j).length
      · rw [if_neg (by omega), if_pos hin]; rfl
      · rw [if_neg hin]
        by_cases h2 : i < (F j).length + X.length
        · rw [if_pos ⟨rfl, by omega, h2⟩, List.getD_eq_getElem?_getD (l := X), List.getElem?_eq_getElem (show i - (F j).length < X.length by omega)]; rfl
        · rw [if_neg (by omega), List.getD_eq_getElem?_getD, List.getD_eq_getElem?_getD, List.getElem?_eq_none (by omega), List.getElem?_eq_none (by omega)]; rfl
    · rw [if_neg (by omega), if_neg hjg]; rfl
  · obtain ⟨e1, e2⟩ := h.erF rfl
    simp only [if_true, List.reverse_singleton]
    by_cases hjg : j = g
    · subst hjg
      rw [if_pos rfl, e1, e2]
      simp [FlaM.nowR]
    · rw [if_neg hjg]
      simp only [FlaM.nowR]
      rw [if_neg (by rintro ⟨h1, _⟩; omega), if_neg (by rintro ⟨h1, _⟩; omega)]
      rfl
theorem Phy.shape {N : Nat} (h : Phy s fr M F g X er) (ok : FlaM.Ok s N) : FlaM.Shape s.safe (fr + M) s.pp := by
  have := ok.shape
  rwa [h.len] at this
theorem clear_blank {N : Nat} (h : Phy s fr M F g X er) (ok : FlaM.Ok s N) (he : er = true) (m : Nat) (hm : m ≤ s.pp) (j i : Nat) (hi : i < s.pp) (hj : j < M) : pageAt (FlaM.clearTo s.safe (fr + g) m) (fr + j) i = (F j).getD i FlaM.blank := by
  obtain ⟨e1, e2⟩ := h.erF he
  have hg : g < M := by
    rcases h.gM with h1 | ⟨_, h2⟩
    · exact h1
    · rw [he] at h2; cases h2
  have hs := h.shape ok
  rw [FlaM.clearTo_at _ _ _ _ _ (by rw [hs.len]; omega) (by rw [hs.rows _ (by omega)]; exact hm), h.rows j hj i hi]
  split
  · rename_i hc
    have : g = j := by omega
    subst this
    rw [e1]; rfl
  · rfl
theorem Phy.same {s' : FS} (h : Phy s fr M F g X er) (e1 : s'.safe = s.safe) (e2 : s'.L = s.L) (e3 : s'.pp = s.pp) : Phy s' fr M F g X er :=
  ⟨by rw [e1]; exact h.len, fun j hj i hi => by rw [e1]; exact h.rows j hj i (by rw [← e3]; exact hi), by rw [e2]; exact h.log, h.erF, h.gM, fun j hj => by rw [e3]; exact h.room j hj, by rw [e3]; exact h.roomX, h.pages⟩
theorem trip_same (s : FS) : (FlaM.trip s).safe = s.safe ∧ (FlaM.trip s).L = s.L ∧ (FlaM.trip s).pp = s.pp := by
  obtain ⟨e1, e2, _, _, e5⟩ := FlaM.trip_safe s
  exact ⟨e1, e2, e5⟩
theorem Phy.trip (h : Phy s fr M F g X er) : Phy (FlaM.trip s) fr M F g X er := by
  obtain ⟨e1, e2, e3⟩ := trip_same s
  exact h.same e1 e2 e3
/-- the power is on, and does not go off by itself -/
def Live (s : FS) : Prop := s.off = false ∧ s.left = -1
theorem live_trip (h : Live s) : FlaM.trip s = s := by
  unfold FlaM.trip
  rw [if_neg (by rw [h.2]; decide)]
theorem live_okd (h : Live s) : Live (FlaM.okd s) := ⟨h.1, by show (if 0 < s.left then s.left - 1 else s.left) = -1; rw [h.2]; rfl⟩
/-- what an operation leaves: done; or the power is off, and all is as it was -/
structure Did (s : FS) (r : FS × Nat) (fr M : Nat) (F F' : Nat → List Bs) (g g' : Nat) (X X' : List Bs) (er er' : Bool) : Prop where
  pp : r.1.pp = s.pp
  or : (r.2 = 0 ∧ Phy r.1 fr M F' g' X' er') ∨ (r.2 = 6 ∧ r.1.off = true ∧ Phy r.1 fr M F g X er)
  live : Live s → r.2 = 0 ∧ Live r.1
  dead : s.off = true → r.2 = 6
theorem Phy.prog {N : Nat} (h : Phy s fr M F g X er) (ok : FlaM.Ok s N) (b : Bs) (hb : b.length = 128) (hg : g < M) (her : er = false) (i : Nat) (hi : i = (F g).length + X.length) (hip : i < s.pp) :
    Did s (FlaM.progF s ((fr + g : Nat) : Int) (i : Int) b) fr M F F g g X (X ++ [b]) er false := by
  have ht : FlaM.there s ((fr + g : Nat) : Int) (i : Int) = true := by
    unfold FlaM.there
    have := h.len
    simp
    omega
  have hnow : FlaM.now s (fr + g) i = FlaM.blank := by
    rw [h.now g i hg hip]
    unfold onSeg
    rw [if_pos rfl, List.getD_eq_getElem?_getD, List.getElem?_eq_none (by rw [List.length_append]; omega)]
    rfl
  have e0 : FlaM.progF s ((fr + g : Nat) : Int) (i : Int) b = if s.off then (s, 6) else if (FlaM.trip s).off then (FlaM.trip s, 6) else (FlaM.okd { FlaM.trip s with L := (FlaM.trip s).L ++ [⟨fr + g, (i : Int), b⟩] }, 0) := by
    unfold FlaM.progF
    rw [if_neg (by rw [ht]; simp [hb])]
    simp only [Int.toNat_natCast]
    by_cases ho : s.off = true
    · rw [if_pos ho, if_pos ho]
    · rw [if_neg ho, if_neg ho, if_neg (by rw [hnow]; simp)]
  rw [e0]
  obtain ⟨t1, t2, t3⟩ := trip_same s
  by_cases ho : s.off = true
  · rw [if_pos ho]
    exact ⟨rfl, .inr ⟨rfl, ho, h⟩, fun hl => absurd ho (by rw [hl.1]; decide), fun _ => rfl⟩
  rw [if_neg ho]
  by_cases ht' : (FlaM.trip s).off = true
  · rw [if_pos ht']
    exact ⟨t3, .inr ⟨rfl, ht', h.trip⟩, fun hl => by rw [live_trip hl] at ht'; exact absurd ht' ho, fun h => absurd h ho⟩
  rw [if_neg ht']
  refine ⟨t3, .inl ⟨rfl, ?_⟩, fun hl => ⟨rfl, ?_⟩, fun h => absurd h ho⟩
  · refine ⟨?_, ?_, ?_, (fun h => by cases h), .inl hg, ?_, ?_, h.pages.1, ?_⟩
    · show (FlaM.trip s).safe.length = _
      rw [t1]; exact h.len
    · intro j hj i' hi'
      show pageAt (FlaM.trip s).safe (fr + j) i' = _
      rw [t1]
      exact h.rows j hj i' (by rw [← t3]; exact hi')
    · show (FlaM.trip s).L ++ [⟨fr + g, (i : Int), b⟩] = _
      rw [t2, h.log, her]
      simp only [Bool.false_eq_true, if_false]
      rw [progsFrom_snoc, hi]
    · intro j hj
      show _ ≤ (FlaM.trip s).pp
      rw [t3]; exact h.room j hj
    · show _ ≤ (FlaM.trip s).pp
      rw [t3, List.length_append, List.length_singleton]; omega
    · intro p hp
      rcases List.mem_append.1 hp with hp | hp
      · exact h.pages.2 p hp
      · rw [List.mem_singleton.1 hp]; exact hb
  · have hl2 : Live { FlaM.trip s with L := (FlaM.trip s).L ++ [⟨fr + g, (i : Int), b⟩] } := by
      rw [live_trip hl]; exact ⟨hl.1, hl.2⟩
    exact live_okd hl2
theorem Phy.erase {N : Nat} (h : Phy s fr M F g X er) (ok : FlaM.Ok s N) (hX : X = []) (her : er = false) (g' : Nat) (hg : g' < M) (hF : F g' = []) :
    Did s (FlaM.erase s ((fr + g' : Nat) : Int)) fr M F F g g' X [] er true := by
  have ht : FlaM.there s ((fr + g' : Nat) : Int) 0 = true := by
    unfold FlaM.there
    have := h.len
    have := ok.pp
    simp
    omega
  have e0 : FlaM.erase s ((fr + g' : Nat) : Int) = if (FlaM.trip s).off then (FlaM.trip s, 6) else (FlaM.okd { FlaM.trip s with L := (FlaM.trip s).L ++ [⟨fr + g', -1, []⟩], wear := FlaM.bump (FlaM.trip s).wear (fr + g') }, 0) := by
    unfold FlaM.erase
    rw [if_neg (by rw [ht]; decide)]
    rfl
  rw [e0]
  obtain ⟨t1, t2, t3⟩ := trip_same s
  have hdead : s.off = true → (FlaM.trip s).off = true := by
    intro ho
    unfold FlaM.trip
    split
    · rfl
    · exact ho
  by_cases ht' : (FlaM.trip s).off = true
  · rw [if_pos ht']
    exact ⟨t3, .inr ⟨rfl, ht', h.trip⟩, (fun hl => by rw [live_trip hl, hl.1] at ht'; cases ht'), fun _ => rfl⟩
  rw [if_neg ht']
  refine ⟨t3, .inl ⟨rfl, ?_⟩, fun hl => ⟨rfl, ?_⟩, fun ho => absurd (hdead ho) ht'⟩
  · refine ⟨?_, ?_, ?_, fun _ => ⟨hF, rfl⟩, .inl hg, ?_, ?_, h.pages.1, fun p hp => by cases hp⟩
    · show (FlaM.trip s).safe.length = _
      rw [t1]; exact h.len
    · intro j hj i' hi'
      show pageAt (FlaM.trip s).safe (fr + j) i' = _
      rw [t1]
      exact h.rows j hj i' (by rw [← t3]; exact hi')
    · show (FlaM.trip s).L ++ [⟨fr + g', -1, []⟩] = _
      rw [t2, h.log, her, hX]
      rfl
    · intro j hj
      show _ ≤ (FlaM.trip s).pp
      rw [t3]; exact h.room j hj
    · show _ ≤ (FlaM.trip s).pp
      rw [hF]; exact Nat.zero_le _
  · have hl2 : Live { FlaM.trip s with L := (FlaM.trip s).L ++ [⟨fr + g', -1, []⟩], wear := FlaM.bump (FlaM.trip s).wear (fr + g') } := by
      rw [live_trip hl]; exact ⟨hl.1, hl.2⟩
    exact live_okd hl2
theorem Phy.barrier {N : Nat} (h : Phy s fr M F g X er) (ok : FlaM.Ok s N) :
    Did s (FlaM.barrier s) fr M F (onSeg F g X) g g X [] er false := by
  have e0 : FlaM.barrier s = if (FlaM.trip s).off then (FlaM.trip s, 6) else (FlaM.okd (FlaM.some' (FlaM.trip s) (List.replicate (FlaM.trip s).L.length 128)), 0) := rfl
  rw [e0]
  obtain ⟨t1, t2, t3⟩ := trip_same s
  have hdead : s.off = true → (FlaM.trip s).off = true := by
    intro ho
    unfold FlaM.trip
    split
    · rfl
    · exact ho
  by_cases ht' : (FlaM.trip s).off = true
  · rw [if_pos ht']
    exact ⟨t3, .inr ⟨rfl, ht', h.trip⟩, (fun hl => by rw [live_trip hl, hl.1] at ht'; cases ht'), fun _ => rfl⟩
  rw [if_neg ht']
  refine ⟨t3, .inl ⟨rfl, ?_⟩, fun hl => ⟨rfl, ?_⟩, fun ho => absurd (hdead ho) ht'⟩
  · have hs := h.shape ok
    have hsafe : ∀ j, j < M → ∀ i, i < s.pp → pageAt (doAll s.pp (List.replicate s.L.length 128) s.safe 0 s.L) (fr + j) i = (onSeg F g X j).getD i FlaM.blank := by
      intro j hj i hi
      rw [h.log]
      cases er
      · simp only [Bool.false_eq_true, if_false]
        rcases h.gM with hg | ⟨hX, _⟩
        · rw [doAll_progs s.pp _ (fr + g) (fr + M) (by omega) X _ 0 s.safe hs h.roomX h.pages.2, h.rows j hj i hi, progsFrom_len]
          unfold onSeg
          by_cases hc : fr + j = fr + g ∧ (F g).length ≤ i ∧ i < (F g).length + X.length
          · obtain ⟨h1, h2, h3⟩ := hc
            have hjg : j = g := by omega
            subst hjg
            rw [if_pos ⟨rfl, h2, h3⟩, if_pos rfl, getD_append, if_neg (by omega), Nat.zero_add]
            have hx : X.getD (i - (F j).length) [] = X.getD (i - (F j).length) FlaM.blank := by
              rw [List.getD_eq_getElem?_getD, List.getD_eq_getElem?_getD, List.getElem?_eq_getElem (by omega)]; rfl
            have hx2 : (X.getD (i - (F j).length) FlaM.blank).length = 128 := by
              rw [List.getD_eq_getElem?_getD, List.getElem?_eq_getElem (show i - (F j).length < X.length by omega)]
              exact h.pages.2 _ (List.getElem_mem _)
            have hf : (List.replicate X.length (128 : Int)).getD (i - (F j).length) 0 = 128 := by
              rw [List.getD_eq_getElem?_getD, List.getElem?_replicate, if_pos (by omega)]; rfl
            rw [hf, hx, show (min ((128 : Int).toNat) 128) = 128 from rfl, List.take_of_length_le (by omega), List.getD_eq_getElem?_getD (l := F j), List.getElem?_eq_none (show (F j).length ≤ i from h2), Option.getD_none, List.drop_of_length_le (by rw [FlaM.blank_len]; exact Nat.le_refl _), List.append_nil]
          · rw [if_neg hc]
            by_cases hjg : j = g
            · subst hjg
              rw [if_pos rfl, getD_append]
              split
              · rfl
              · rw [List.getD_eq_getElem?_getD, List.getD_eq_getElem?_getD, List.getElem?_eq_none (by omega), List.getElem?_eq_none (by omega)]
            · rw [if_neg hjg]
        · subst hX
          show pageAt s.safe (fr + j) i = _
          rw [h.rows j hj i hi]
          unfold onSeg
          split <;> simp
      · obtain ⟨e1, e2⟩ := h.erF rfl
        simp only [if_true]
        have e : pageAt (doOne s.pp s.safe ⟨fr + g, -1, []⟩ ((List.replicate ([⟨fr + g, -1, []⟩] : List FlaM.Act).length (128 : Int)).getD 0 0)) (fr + j) i = (F j).getD i FlaM.blank := by
          unfold FlaM.doOne
          simp only
          rw [if_neg (by omega)]
          exact clear_blank h ok rfl _ (by omega) j i hi hj
        show pageAt (doOne s.pp s.safe ⟨fr + g, -1, []⟩ ((List.replicate ([⟨fr + g, -1, []⟩] : List FlaM.Act).length (128 : Int)).getD 0 0)) (fr + j) i = _
        rw [e]
        unfold onSeg
        split
        · rw [e2, List.append_nil]
        · rfl
    have hacts : ∀ a ∈ s.L, a.seg < fr + M ∧ ((0 ≤ a.page ∧ a.page < (s.pp : Int) ∧ a.b.length = 128) ∨ (a.page = -1 ∧ a.b = [])) := by
      intro a ha
      have := ok.acts a ha
      rwa [h.len] at this
    have hsh := FlaM.shape_all (List.replicate s.L.length 128) s.L s.safe 0 hs hacts
    refine ⟨?_, ?_, rfl, (fun h => by cases h), .inr ⟨rfl, rfl⟩, ?_, ?_, ⟨?_, fun p hp => by cases hp⟩⟩
    · show (doAll (FlaM.trip s).pp (List.replicate (FlaM.trip s).L.length 128) (FlaM.trip s).safe 0 (FlaM.trip s).L).length = _
      rw [t1, t2, t3]; exact hsh.len
    · intro j hj i hi
      show pageAt (doAll (FlaM.trip s).pp (List.replicate (FlaM.trip s).L.length 128) (FlaM.trip s).safe 0 (FlaM.trip s).L) (fr + j) i = _
      rw [t1, t2, t3]
      exact hsafe j hj i (by rw [← t3]; exact hi)
    · intro j hj
      show _ ≤ (FlaM.trip s).pp
      rw [t3]
      unfold onSeg
      split
      · rename_i h1
        subst h1
        rw [List.length_append]
        exact h.roomX
      · exact h.room j hj
    · show _ + 0 ≤ (FlaM.trip s).pp
      rw [t3]
      unfold onSeg
      rw [if_pos rfl, List.length_append]
      exact h.roomX
    · intro j p hp
      unfold onSeg at hp
      split at hp
      · rcases List.mem_append.1 hp with hp | hp
        · exact h.pages.1 j p hp
        · exact h.pages.2 p hp
      · exact h.pages.1 j p hp
  · have hl2 : Live (FlaM.some' (FlaM.trip s) (List.replicate (FlaM.trip s).L.length 128)) := by
      rw [live_trip hl]; exact ⟨hl.1, hl.2⟩
    exact live_okd hl2
end
end Go.LogM

end
section
namespace Go.TabM
structure Sg where
  kind : Nat
  seq : Nat
  wear : Nat
def zS : Sg := ⟨0, 0, 0⟩
structure T where
  rows : List Sg
  next : Nat
def at_ (l : List Sg) (i : Nat) : Sg := l.getD i zS
/-- the first open segment, from i on -/
def curF : Nat → List Sg → Option Nat
  | _, [] => none
  | i, s :: l => if s.kind = 1 then some i else curF (i + 1) l
def cur (t : T) : Option Nat := curF 0 t.rows
/-- is a segment taken in the place of the best one so far -/
def takes (b : Option (Nat × Nat)) (s : Sg) : Bool := decide (s.kind = 0) && (match b with | none => true | some p => decide (s.wear < p.2))
def bestF : Option (Nat × Nat) → Nat → List Sg → Option (Nat × Nat)
  | b, _, [] => b
  | b, i, s :: l => bestF (if takes b s then some (i, s.wear) else b) (i + 1) l
def best (t : T) : Option (Nat × Nat) := bestF none 0 t.rows
def opened (t : T) (i w : Nat) : T := ⟨t.rows.set i ⟨1, t.next, w + 1⟩, t.next + 1⟩
/-- Open: what it leaves; the segment, its number, the error -/
def openT (t : T) : T × (Nat × Nat × Nat) :=
  match cur t with
  | some _ => (t, (0, 0, 3))
  | none => match best t with
    | none => (t, (0, 0, 5))
    | some (i, w) => (opened t i w, (i, t.next, 0))
def sealT (t : T) : T × Nat :=
  match cur t with
  | none => (t, 2)
  | some i => (⟨t.rows.set i { at_ t.rows i with kind := 2 }, t.next⟩, 0)
def fresh (n : Nat) : T := ⟨List.replicate n zS, 1⟩
theorem at_eq {l : List Sg} {i : Nat} {s : Sg} (h : l[i]? = some s) : at_ l i = s := by unfold at_; rw [List.getD_eq_getElem?_getD, h]; rfl
theorem at_get {l : List Sg} {i : Nat} (h : i < l.length) : l[i]? = some (at_ l i) := by
  unfold at_; rw [List.getD_eq_getElem?_getD, List.getElem?_eq_getElem h]; rfl
/-! ### what a table is -/
structure Ok (t : T) (N : Nat) : Prop where
  len : t.rows.length ≤ 256
  kind : ∀ s ∈ t.rows, s.kind ≤ 2
  wear : ∀ s ∈ t.rows, s.wear ≤ N
  seq : ∀ s ∈ t.rows, s.seq ≤ N
  low : 1 ≤ t.next
  next : t.next ≤ N + 1
theorem Ok.more {t : T} {N M : Nat} (h : Ok t N) (hm : N ≤ M) : Ok t M :=
  ⟨h.len, h.kind, fun s hs => Nat.le_trans (h.wear s hs) hm, fun s hs => Nat.le_trans (h.seq s hs) hm, h.low, by have := h.next; omega⟩
theorem curF_some : ∀ (l : List Sg) (j i : Nat), curF j l = some i → ∃ k s, i = j + k ∧ l[k]? = some s ∧ s.kind = 1
  | [], _, _, h => by cases h
  | s :: l, j, i, h => by
    unfold curF at h
    by_cases hs : s.kind = 1
    · rw [if_pos hs] at h
      cases h
      exact ⟨0, s, rfl, rfl, hs⟩
    · rw [if_neg hs] at h
      obtain ⟨k, s', e, h1, h2⟩ := curF_some l (j + 1) i h
      exact ⟨k + 1, s', by omega, h1, h2⟩
theorem cur_some {t : T} {i : Nat} (h : cur t = some i) : i < t.rows.length ∧ (at_ t.rows i).kind = 1 := by
  obtain ⟨k, s, e, h1, h2⟩ := curF_some _ _ _ h
  rw [Nat.zero_add] at e
  subst e
  exact ⟨(List.getElem?_eq_some_iff.1 h1).1, by rw [at_eq h1]; exact h2⟩
/-! ### which rows are loaded -/
structure LoadOk (rows : List Sg) (next : Nat) : Prop where
  len : rows.length ≤ 256
  low : 1 ≤ next
  free : ∀ s ∈ rows, s.kind = 0 → s.seq = 0
  used : ∀ s ∈ rows, s.kind ≠ 0 → s.kind ≤ 2 ∧ 1 ≤ s.seq ∧ s.seq < next
  apart : ∀ i j (hi : i < rows.length) (hj : j < rows.length), i ≠ j → rows[i].seq = rows[j].seq → rows[i].seq = 0
  one : ∀ i j (hi : i < rows.length) (hj : j < rows.length), rows[i].kind = 1 → rows[j].kind = 1 → i = j
theorem at_lt {l : List Sg} {i : Nat} (h : i < l.length) : at_ l i = l[i] := at_eq (List.getElem?_eq_getElem h)
/-! ### sums -/
theorem count_none {l : List Sg} (h : ∀ s ∈ l, s.kind ≠ 1) : l.countP (fun s => decide (s.kind = 1)) = 0 := by
  rw [List.countP_eq_zero]; intro s hs; simpa using h s hs
/-! ### numbers rise -/
end Go.TabM

end
section
namespace Go.LogM
open TabM (Sg zS T at_)
def rowAt (k : Nat) (op : Bool) (i : Nat) : Sg := if i < k then ⟨if op = true ∧ i + 1 = k then 1 else 2, i + 1, 1⟩ else zS
theorem rowAt_seq {k i : Nat} {op : Bool} (h : i < k) : (rowAt k op i).seq = i + 1 := by unfold rowAt; rw [if_pos h]
def tabOf (M k : Nat) (op : Bool) : T := ⟨(List.range M).map (rowAt k op), k + 1⟩
theorem tab_len (M k : Nat) (op : Bool) : (tabOf M k op).rows.length = M := by simp [tabOf]
theorem tab_at {M k : Nat} {op : Bool} {i : Nat} (h : i < M) : at_ (tabOf M k op).rows i = rowAt k op i := by
  apply TabM.at_eq
  show ((List.range M).map (rowAt k op))[i]? = _
  rw [List.getElem?_map, List.getElem?_range h]; rfl
theorem curF_first : ∀ (l : List Sg) (j n : Nat), n < l.length → (∀ i, i < n → (at_ l i).kind ≠ 1) → (at_ l n).kind = 1 → TabM.curF j l = some (j + n)
  | [], _, _, h, _, _ => absurd h (Nat.not_lt_zero _)
  | s :: l, j, 0, _, _, h => by
    have h' : s.kind = 1 := h
    unfold TabM.curF
    rw [if_pos h']; rfl
  | s :: l, j, n + 1, h, h1, h2 => by
    have h' : ¬ s.kind = 1 := h1 0 (Nat.succ_pos _)
    unfold TabM.curF
    rw [if_neg h', curF_first l (j + 1) n (by simpa using h) (fun i hi => h1 (i + 1) (Nat.succ_lt_succ hi)) h2]
    congr 1; omega
theorem curF_no : ∀ (l : List Sg) (j : Nat), (∀ s ∈ l, s.kind ≠ 1) → TabM.curF j l = none
  | [], _, _ => rfl
  | s :: l, j, h => by
    unfold TabM.curF
    rw [if_neg (h s List.mem_cons_self)]
    exact curF_no l _ (fun x hx => h x (List.mem_cons_of_mem _ hx))
theorem tab_cur {M k : Nat} (h : 0 < k) (hM : k ≤ M) : TabM.cur (tabOf M k true) = some (k - 1) := by
  have := curF_first (tabOf M k true).rows 0 (k - 1) (by rw [tab_len]; omega) ?_ ?_
  · rw [Nat.zero_add] at this; exact this
  · intro i hi
    rw [tab_at (by omega)]
    unfold rowAt
    rw [if_pos (by omega), if_neg (by omega)]
    simp
  · rw [tab_at (by omega)]
    unfold rowAt
    rw [if_pos (by omega), if_pos ⟨rfl, by omega⟩]
theorem tab_mem {M k : Nat} {op : Bool} {s : Sg} (h : s ∈ (tabOf M k op).rows) : ∃ i, i < M ∧ s = rowAt k op i := by
  obtain ⟨i, hi, rfl⟩ := List.mem_map.1 h
  exact ⟨i, List.mem_range.1 hi, rfl⟩
theorem tab_nocur (M k : Nat) : TabM.cur (tabOf M k false) = none := by
  refine curF_no _ _ ?_
  intro s hs
  obtain ⟨i, hi, rfl⟩ := tab_mem hs
  unfold rowAt
  split
  · simp
  · decide
theorem tab_ok {M k N : Nat} (op : Bool) (hM : M ≤ 256) (hk : k ≤ N) (hN : 1 ≤ N) : TabM.Ok (tabOf M k op) N := by
  refine ⟨by rw [tab_len]; exact hM, ?_, ?_, ?_, Nat.succ_pos _, Nat.succ_le_succ hk⟩
  all_goals
    intro s hs
    obtain ⟨i, hi, rfl⟩ := tab_mem hs
    unfold rowAt
    split
  · show (if _ then 1 else 2) ≤ 2
    split <;> omega
  · exact Nat.zero_le _
  · exact hN
  · exact Nat.zero_le _
  · show i + 1 ≤ N; omega
  · exact Nat.zero_le _
end Go.LogM

end
section
namespace Go.LogM
open FlaM (FS)
structure LG where
  fs : FS
  tb : TabM.T
  a : Nat
def zP : Plc := ⟨0, 0, 0⟩
def closeL (σ : LG) : LG × Nat :=
  match TabM.cur σ.tb with
  | none => (σ, 0)
  | some _ => if (FlaM.barrier σ.fs).2 = 0 then (⟨(FlaM.barrier σ.fs).1, (TabM.sealT σ.tb).1, σ.a⟩, 0) else (⟨(FlaM.barrier σ.fs).1, σ.tb, σ.a⟩, (FlaM.barrier σ.fs).2)
/-- a segment that was opened: erased, and its first page programmed -/
def headL (g seq : Nat) (s : FS) : (FS × Nat) × Nat :=
  if (FlaM.erase s (g : Int)).2 ≠ 0 then (((FlaM.erase s (g : Int)).1, s.pp), (FlaM.erase s (g : Int)).2) else
  if (FlaM.barrier (FlaM.erase s (g : Int)).1).2 ≠ 0 then (((FlaM.barrier (FlaM.erase s (g : Int)).1).1, s.pp), (FlaM.barrier (FlaM.erase s (g : Int)).1).2) else
  if (FlaM.progF (FlaM.barrier (FlaM.erase s (g : Int)).1).1 (g : Int) ((0 : Nat) : Int) (hdr seq)).2 ≠ 0 then (((FlaM.progF (FlaM.barrier (FlaM.erase s (g : Int)).1).1 (g : Int) ((0 : Nat) : Int) (hdr seq)).1, s.pp), (FlaM.progF (FlaM.barrier (FlaM.erase s (g : Int)).1).1 (g : Int) ((0 : Nat) : Int) (hdr seq)).2) else
  (((FlaM.progF (FlaM.barrier (FlaM.erase s (g : Int)).1).1 (g : Int) ((0 : Nat) : Int) (hdr seq)).1, 1), 0)
def openL (fr : Nat) (σ : LG) : LG × Nat :=
  if (TabM.openT σ.tb).2.2.2 ≠ 0 then (⟨σ.fs, (TabM.openT σ.tb).1, σ.a⟩, (TabM.openT σ.tb).2.2.2) else
  (⟨(headL (fr + (TabM.openT σ.tb).2.1) (TabM.openT σ.tb).2.2.1 σ.fs).1.1, (TabM.openT σ.tb).1, (headL (fr + (TabM.openT σ.tb).2.1) (TabM.openT σ.tb).2.2.1 σ.fs).1.2⟩, (headL (fr + (TabM.openT σ.tb).2.1) (TabM.openT σ.tb).2.2.1 σ.fs).2)
def progsL (g : Nat) : FS → Nat → List Bs → (FS × Nat) × Nat
  | s, a, [] => ((s, a), 0)
  | s, a, b :: r => if (FlaM.progF s (g : Int) (a : Int) b).2 = 0 then progsL g (FlaM.progF s (g : Int) (a : Int) b).1 (a + 1) r else (((FlaM.progF s (g : Int) (a : Int) b).1, a), (FlaM.progF s (g : Int) (a : Int) b).2)
/-- the open segment closed, if the pages do not fit there -/
def roomL (σ : LG) (m : Nat) : LG × Nat := if (TabM.cur σ.tb).isSome = true ∧ σ.fs.pp < σ.a + m then closeL σ else (σ, 0)
/-- one opened, if none is open -/
def needL (fr : Nat) (σ : LG) : LG × Nat := if (TabM.cur σ.tb).isSome = true then (σ, 0) else openL fr σ
def putL (fr : Nat) (σ : LG) (ps : List Bs) : LG × (Plc × Nat) :=
  if (progsL (fr + (TabM.cur σ.tb).getD 0) σ.fs σ.a ps).2 ≠ 0 then (⟨(progsL (fr + (TabM.cur σ.tb).getD 0) σ.fs σ.a ps).1.1, σ.tb, (progsL (fr + (TabM.cur σ.tb).getD 0) σ.fs σ.a ps).1.2⟩, (zP, (progsL (fr + (TabM.cur σ.tb).getD 0) σ.fs σ.a ps).2))
  else (⟨(progsL (fr + (TabM.cur σ.tb).getD 0) σ.fs σ.a ps).1.1, σ.tb, (progsL (fr + (TabM.cur σ.tb).getD 0) σ.fs σ.a ps).1.2⟩, (⟨((TabM.cur σ.tb).getD 0 : Nat), σ.a, ps.length⟩, 0))
def appendL (fr : Nat) (σ : LG) (n : RecM.Nte) : LG × (Plc × Nat) :=
  if RecM.right n = false then (σ, (zP, 1)) else
  if σ.fs.pp < 1 + (notePages n).length then (σ, (zP, 4)) else
  if (roomL σ (notePages n).length).2 ≠ 0 then ((roomL σ (notePages n).length).1, (zP, (roomL σ (notePages n).length).2)) else
  if (needL fr (roomL σ (notePages n).length).1).2 ≠ 0 then ((needL fr (roomL σ (notePages n).length).1).1, (zP, (needL fr (roomL σ (notePages n).length).1).2)) else
  putL fr (needL fr (roomL σ (notePages n).length).1).1 (notePages n)

/-- what is on segment j -/
def full (k : Nat) (hd : Bool) (ex : List Bs) (Ns : Nat → List RecM.Nte) (j : Nat) : List Bs :=
  if j + 1 = k ∧ hd = false then [] else hdr (j + 1) :: ((Ns j).flatMap notePages ++ (if j + 1 = k then ex else []))
structure Inv (fr M : Nat) (σ : LG) (k : Nat) (op hd : Bool) (Ns : Nat → List RecM.Nte) (ex : List Bs) (F : Nat → List Bs) (X : List Bs) (er : Bool) : Prop where
  tb : σ.tb = tabOf M k op
  km : k ≤ M
  phy : Phy σ.fs fr M F (k - 1) X er
  new : ∀ j, k ≤ j → F j = [] ∧ Ns j = []
  all : ∀ j, j < k → onSeg F (k - 1) X j = full k hd ex Ns j
  opn : op = true → 0 < k
  at_ : op = true → σ.a = if hd = true then (onSeg F (k - 1) X (k - 1)).length else σ.fs.pp
  shut : op = false → X = [] ∧ er = false ∧ hd = true ∧ ex = []
  bad : hd = false → Ns (k - 1) = [] ∧ ex = [] ∧ σ.fs.off = true
  torn : ex = [] ∨ (σ.fs.off = true ∧ ∃ n c, c < (notePages n).length ∧ ex = (notePages n).take c)
  er0 : er = true → hd = false
  good : ∀ j, ∀ n ∈ Ns j, Good n
  pp : 2 ≤ σ.fs.pp
theorem Phy.move {s : FS} {fr M : Nat} {F : Nat → List Bs} {g g' : Nat} (h : Phy s fr M F g [] false) (hg : g' < M) : Phy s fr M F g' [] false :=
  ⟨h.len, h.rows, h.log, fun h => (by cases h), .inr ⟨rfl, rfl⟩, h.room, h.room g' hg, h.pages⟩
section
variable {fr M : Nat} {σ : LG} {k : Nat} {op hd : Bool} {Ns : Nat → List RecM.Nte} {ex : List Bs} {F : Nat → List Bs} {X : List Bs} {er : Bool} {N : Nat}
end
end Go.LogM

end
section
namespace Go.LogM
open FlaM (FS)
section
variable {fr M : Nat} {σ : LG} {k : Nat} {op hd : Bool} {Ns : Nat → List RecM.Nte} {ex : List Bs} {F : Nat → List Bs} {X : List Bs} {er : Bool} {N : Nat}
theorem Inv.zero (h : Inv fr M σ k op hd Ns ex F X er) (hk : k = 0) : ∀ j, Ns j = [] := fun j => (h.new j (by omega)).2
theorem full_len (h : Inv fr M σ k op hd Ns ex F X er) (hk : 0 < k) : (onSeg F (k - 1) X (k - 1)).length = (F (k - 1)).length + X.length := by
  unfold onSeg
  rw [if_pos rfl, List.length_append]
end
end Go.LogM

end
section
namespace Go.LogM
open FlaM (FS)
section
variable {fr M : Nat} {σ : LG} {k : Nat} {op hd : Bool} {Ns : Nat → List RecM.Nte} {ex : List Bs} {F : Nat → List Bs} {X : List Bs} {er : Bool} {N : Nat}
theorem cur_some (h : Inv fr M σ k op hd Ns ex F X er) : (TabM.cur σ.tb).isSome = op := by
  rw [h.tb]
  cases op
  · rw [tab_nocur]; rfl
  · rw [tab_cur (h.opn rfl) h.km]; rfl
end
end Go.LogM

end
section
namespace Go.LogM
open FlaM (FS)
def headN (σ : LG) : Nat × Nat :=
  match TabM.cur σ.tb with
  | none => (σ.tb.next, 1)
  | some i => if σ.a < σ.fs.pp then ((TabM.at_ σ.tb.rows i).seq, σ.a) else (σ.tb.next, 1)
/-- it hangs together -/
structure LgOk (fr : Nat) (σ : LG) (N : Nat) : Prop where
  fs : FlaM.Ok σ.fs N
  tb : TabM.Ok σ.tb N
  room : fr + σ.tb.rows.length ≤ σ.fs.safe.length
  pp : 2 ≤ σ.fs.pp
  a : (TabM.cur σ.tb).isSome = true → 1 ≤ σ.a ∧ σ.a ≤ σ.fs.pp
  load : TabM.LoadOk σ.tb.rows σ.tb.next
theorem load_tab {M k : Nat} (op : Bool) (hM : M ≤ 256) : TabM.LoadOk (tabOf M k op).rows (tabOf M k op).next := by
  refine ⟨by rw [tab_len]; exact hM, Nat.succ_pos _, ?_, ?_, ?_, ?_⟩
  · intro s hs hk
    obtain ⟨i, hi, rfl⟩ := tab_mem hs
    unfold rowAt at hk ⊢
    split at hk
    · simp at hk; split at hk <;> cases hk
    · rename_i h; rw [if_neg h]; rfl
  · intro s hs hk
    obtain ⟨i, hi, rfl⟩ := tab_mem hs
    unfold rowAt at hk ⊢
    by_cases h : i < k
    · rw [if_pos h]
      refine ⟨?_, Nat.succ_pos _, by show i + 1 < k + 1; omega⟩
      show (if _ then 1 else 2) ≤ 2
      split <;> omega
    · rw [if_neg h] at hk; exact absurd rfl hk
  · intro i j hi hj hne e
    have hi' : i < M := by rw [tab_len] at hi; exact hi
    have hj' : j < M := by rw [tab_len] at hj; exact hj
    have e1 : (tabOf M k op).rows[i] = rowAt k op i := by rw [← TabM.at_lt hi]; exact tab_at hi'
    have e2 : (tabOf M k op).rows[j] = rowAt k op j := by rw [← TabM.at_lt hj]; exact tab_at hj'
    rw [e1, e2] at e
    rw [e1]
    by_cases h1 : i < k
    · rw [rowAt_seq h1] at e ⊢
      by_cases h2 : j < k
      · rw [rowAt_seq h2] at e; omega
      · unfold rowAt at e; rw [if_neg h2] at e; cases e
    · unfold rowAt; rw [if_neg h1]; rfl
  · intro i j hi hj e1 e2
    have hi' : i < M := by rw [tab_len] at hi; exact hi
    have hj' : j < M := by rw [tab_len] at hj; exact hj
    rw [← TabM.at_lt hi, tab_at hi'] at e1
    rw [← TabM.at_lt hj, tab_at hj'] at e2
    have key : ∀ x, (rowAt k op x).kind = 1 → x + 1 = k := by
      intro x hx
      unfold rowAt at hx
      split at hx
      · simp only at hx
        split at hx
        · rename_i h; exact h.2
        · cases hx
      · cases hx
    have := key i e1
    have := key j e2
    omega
section
variable {fr M : Nat} {σ : LG} {k : Nat} {op hd : Bool} {Ns : Nat → List RecM.Nte} {ex : List Bs} {F : Nat → List Bs} {X : List Bs} {er : Bool} {N : Nat}
theorem Inv.ok (h : Inv fr M σ k op hd Ns ex F X er) (hM : M ≤ 256) (ok : FlaM.Ok σ.fs N) (hN : k ≤ N) (h1 : 1 ≤ N) : LgOk fr σ N := by
  refine ⟨ok, by rw [h.tb]; exact tab_ok op hM hN h1, by rw [h.tb, tab_len, h.phy.len]; exact Nat.le_refl _, h.pp, fun hc => ?_, by rw [h.tb]; exact load_tab op hM⟩
  rw [cur_some h] at hc
  have ha := h.at_ hc
  have hpp := h.pp
  cases hd
  · rw [if_neg (by simp)] at ha; omega
  · rw [if_pos rfl] at ha
    have hk := h.opn hc
    have hl := full_len h hk
    have hr := h.phy.roomX
    have hall := h.all (k - 1) (by omega)
    have : 1 ≤ (onSeg F (k - 1) X (k - 1)).length := by
      rw [hall]
      unfold full
      rw [if_neg (by simp), List.length_cons]
      omega
    omega
end
/-! ### the examples -/
def nD (i : Nat) : RecM.Nte := ⟨3, 0, i, RecM.zsum, 0, []⟩
def x0 : LG := ⟨FlaM.fresh (2 + 1) 4, TabM.fresh 2, 4⟩
def x1 : LG := (appendL 1 x0 (nD 0)).1
def x2 : LG := (appendL 1 x1 (nD 1)).1
def x3 : LG := (appendL 1 x2 (nD 2)).1
def x4 : LG := (appendL 1 x3 (nD 3)).1
def xs (i : Nat) : LG := if i = 0 then x0 else if i = 1 then x1 else if i = 2 then x2 else if i = 3 then x3 else x4
def want (i : Nat) : Plc := if i = 0 then ⟨0, 1, 1⟩ else if i = 1 then ⟨0, 2, 1⟩ else if i = 2 then ⟨0, 3, 1⟩ else ⟨1, 1, 1⟩
end Go.LogM

end
section
namespace Go.LogM
open FlaM (FS)
structure LR (pp : Nat) (tb : TabM.T) (a q nx : Nat) : Prop where
  seq : q < tb.next
  low : nx ≤ pp
  cur : ∀ i, TabM.cur tb = some i → ((TabM.at_ tb.rows i).seq = q ∧ nx = a) ∨ ((TabM.at_ tb.rows i).seq ≠ q ∧ a = pp)
def leftN (pp : Nat) (tb : TabM.T) (q nx : Nat) : Nat :=
  match TabM.cur tb with
  | none => 0
  | some i => if (TabM.at_ tb.rows i).seq = q then pp - nx else 0
theorem left_none {pp q nx : Nat} {tb : TabM.T} (h : TabM.cur tb = none) : leftN pp tb q nx = 0 := by unfold leftN; rw [h]
theorem left_some {pp q nx i : Nat} {tb : TabM.T} (h : TabM.cur tb = some i) : leftN pp tb q nx = if (TabM.at_ tb.rows i).seq = q then pp - nx else 0 := by unfold leftN; rw [h]
section
variable {pp : Nat} {tb : TabM.T} {a q nx N : Nat}
theorem LR.left (h : LR pp tb a q nx) : leftN pp tb q nx = if (TabM.cur tb).isSome = true then pp - a else 0 := by
  cases hc : TabM.cur tb with
  | none => rw [left_none hc]; rfl
  | some i =>
    rw [left_some hc]
    simp only [Option.isSome_some, if_true]
    rcases h.cur i hc with ⟨h1, h2⟩ | ⟨h1, h2⟩
    · rw [if_pos h1, h2]
    · rw [if_neg h1, h2, Nat.sub_self]
theorem LR.here (h : LR pp tb a q nx) {i : Nat} (hc : TabM.cur tb = some i) (ha : a < pp) : (TabM.at_ tb.rows i).seq = q ∧ nx = a := by
  rcases h.cur i hc with h1 | ⟨_, h2⟩
  · exact h1
  · omega
theorem LR.step (h : LR pp tb a q nx) {i : Nat} (hc : TabM.cur tb = some i) (ha : a < pp) : LR pp tb (a + 1) q (nx + 1) := by
  obtain ⟨h1, h2⟩ := h.here hc ha
  refine ⟨h.seq, by omega, fun j hj => ?_⟩
  rw [hc] at hj
  cases hj
  exact .inl ⟨h1, by omega⟩
end
/-! ### what the operations leave as it is -/
/-! ### how much is joined -/
/-- what is known of a log between the calls of its own -/
structure Mid (fr : Nat) (σ : LG) (N : Nat) : Prop where
  fs : FlaM.Ok σ.fs N
  tb : TabM.Ok σ.tb N
  room : fr + σ.tb.rows.length ≤ σ.fs.safe.length
  pp : 2 ≤ σ.fs.pp
section
variable {fr m : Nat} {σ : LG} {N : Nat}
theorem LgOk.mid (h : LgOk fr σ N) : Mid fr σ N := ⟨h.fs, h.tb, h.room, h.pp⟩
end
end Go.LogM

end
section
namespace Go.Own
open Go.RowKit

/-- From w to w' only blocks of S have turned among those that were there; T (what the object holds now) is S and new blocks. -/
structure Step (S T : Nat → Prop) (w w' : World) : Prop where
  os : w'.os = w.os
  tape : w'.tape = w.tape
  output : w'.output = w.output
  size : w.heap.size ≤ w'.heap.size
  block : ∀ k, k < w.heap.size → ¬ S k → w'.heap[k]? = w.heap[k]?
  new : ∀ k, T k → S k ∨ w.heap.size ≤ k

theorem Step.refl (S : Nat → Prop) (w : World) : Step S S w w := ⟨rfl, rfl, rfl, Nat.le_refl _, fun _ _ _ => rfl, fun _ h => Or.inl h⟩

theorem Step.trans {S T U : Nat → Prop} {w w1 w2 : World} (h : Step S T w w1) (g : Step T U w1 w2) : Step S U w w2 :=
  ⟨g.os.trans h.os, g.tape.trans h.tape, g.output.trans h.output, Nat.le_trans h.size g.size,
   fun k hk hs => (g.block k (Nat.lt_of_lt_of_le hk h.size) (fun ht => (h.new k ht).elim hs (fun h1 => absurd h1 (by omega)))).trans (h.block k hk hs),
   fun k hu => (g.new k hu).elim (fun h1 => h.new k h1) (fun h1 => Or.inr (Nat.le_trans h.size h1))⟩

theorem Step.drewN {S T : Nat → Prop} {w w' : World} (h : Step S T w w') (n : Nat) : Step S T w (w'.drewN n) := ⟨h.os, h.tape, h.output, h.size, h.block, h.new⟩
theorem Step.drew {S T : Nat → Prop} {w w' : World} (h : Step S T w w') : Step S T w w'.drew := ⟨h.os, h.tape, h.output, h.size, h.block, h.new⟩

/-- A store into one of the object's own blocks. -/
theorem Step.setCell {S T : Nat → Prop} {w w' : World} (h : Step S T w w') {a : Addr} (ha : S a.block ∨ w.heap.size ≤ a.block) (u : Value) : Step S T w (w'.setCell a u) :=
  ⟨h.os, h.tape, h.output, by simpa using h.size, fun k hk hs => by
    have hne : k ≠ a.block := by
      intro e; subst e
      exact ha.elim hs (fun h1 => absurd h1 (by omega))
    rw [Below.heap_setCell _ _ _ _ hne]; exact h.block k hk hs, h.new⟩

/-- A new block, the object's or nobody's. -/
theorem Step.alloc {S T : Nat → Prop} {w w' : World} (h : Step S T w w') (o : Obj) : Step S T w (w'.alloc o) :=
  ⟨h.os, h.tape, h.output, by have := h.size; simp; omega, fun k hk hs => by
    rw [Below.heap_alloc _ _ _ (by have := h.size; omega)]; exact h.block k hk hs, h.new⟩

/-- What the object holds may be said otherwise. -/
theorem Step.to {S T U : Nat → Prop} {w w' : World} (h : Step S T w w') (hu : ∀ k, U k → S k ∨ w.heap.size ≤ k) : Step S U w w' := ⟨h.os, h.tape, h.output, h.size, h.block, hu⟩

/-- Behind an append onto a row of the object's own. -/
theorem Step.grown {S T : Nat → Prop} {w w1 w' : World} {row : Option Nat} (h : Step S T w w1) (hg : w1.grownBy w' row) (hr : ∀ k, row = some k → S k ∨ w.heap.size ≤ k) : Step S T w w' :=
  ⟨hg.os.trans h.os, hg.tape.trans h.tape, hg.output.trans h.output, Nat.le_trans h.size hg.size,
   fun k hk hs => (hg.block k (by have := h.size; omega) (fun e => (hr k e.symm).elim hs (fun h1 => absurd h1 (by omega)))).trans (h.block k hk hs), h.new⟩

theorem Step.below {S T : Nat → Prop} {w w' : World} (h : Step S T w w') {B : Nat} (hB : B ≤ w.heap.size) (hS : ∀ k, S k → B ≤ k) : Below B w w' :=
  ⟨h.os, h.tape, h.output, h.size, fun k hk => h.block k (by omega) (fun hs => by have := hS k hs; omega)⟩

def Dis (S T : Nat → Prop) : Prop := ∀ k, S k → ¬ T k

theorem cell_of_block {w : World} {b i : Nat} {c : Array Value} {t : TypeId} {fz : Nat × Nat} {v : Value} (h : w.heap[b]? = some (.cells c t fz)) (hv : c[i]? = some v) : w.cell? ⟨b, i, none⟩ = some v := by
  simp [World.cell?, h, hv]

theorem cell_alloc {w : World} {a : Addr} {v : Value} (h : w.cell? a = some v) (o : Obj) : (w.alloc o).cell? a = some v := by
  rw [World.cell?_alloc_lt _ _ _ (World.block_lt_of_cell? w a h)]; exact h

theorem frozen_of_block {w : World} {b i : Nat} {c : Array Value} {t : TypeId} (h : w.heap[b]? = some (.cells c t (0, 0))) : w.frozen? ⟨b, i, none⟩ = false := by
  simp [World.frozen?, h]

theorem lt_of_block {w : World} {b : Nat} {o : Obj} (h : w.heap[b]? = some o) : b < w.heap.size := (Array.getElem?_eq_some_iff.1 h).1

theorem block_setCell {w : World} {b i : Nat} {c : Array Value} {t : TypeId} {fz : Nat × Nat} (h : w.heap[b]? = some (.cells c t fz)) (u : Value) :
    (w.setCell ⟨b, i, none⟩ u).heap[b]? = some (.cells (c.setIfInBounds i u) t fz) := by
  simp [World.setCell, Array.getElem?_modify, h]

def byteV (c : UInt8) : Value := .int .u8 (c.toNat : Int)
theorem byteV_one (l : List UInt8) : ∀ u ∈ l.map byteV, u.oneCell' = true := by
  intro u hu; obtain ⟨c, _, rfl⟩ := List.mem_map.1 hu; rfl

/-- A row of an object's own: n elements (size cells each) in the cells xs; T: the block that holds them, if there is one. -/
structure Row (w : World) (e : TypeId) (size : Nat) (T : Nat → Prop) (v : Value) (n : Nat) (xs : List Value) : Prop where
  own : w.ownsRow 0 e size v n xs
  set : ∀ k, T k ↔ v.ownBlock = some k

section
variable {w w' : World} {e : TypeId} {size : Nat} {S T U : Nat → Prop} {v : Value} {n : Nat} {xs : List Value}

theorem Row.nil (w : World) (e : TypeId) (size : Nat) : Row w e size (fun _ => False) (.slice none 0 0) 0 [] := ⟨World.ownsRow_nil w 0 e size, fun k => by simp [Value.ownBlock]⟩

theorem Row.form (h : Row w e size T v n xs) : ∃ ao cap, v = .slice ao n cap ∧ n ≤ cap ∧ cap ≤ maxLen ∧ (ao = none → n = 0 ∧ cap = 0 ∧ xs = []) ∧ ∀ a, ao = some a → ∃ g, a = ⟨g, 0, none⟩ ∧ T g := by
  have hs := h.set
  have hx := h.own.1
  rcases h.own.2 with ⟨rfl, rfl⟩ | ⟨g, cap, cur, rfl, _, _, h1, h2, _⟩
  · exact ⟨none, 0, rfl, Nat.le_refl _, by unfold maxLen; omega, fun _ => ⟨rfl, rfl, List.eq_nil_of_length_eq_zero (by simpa using hx)⟩, fun a h => by cases h⟩
  · exact ⟨_, cap, rfl, h1, h2, fun h => by (cases h), fun a ha => ⟨g, by cases ha; rfl, (hs g).2 rfl⟩⟩

theorem Row.lt (h : Row w e size T v n xs) : ∀ k, T k → k < w.heap.size := fun k hk => (h.own.lt k ((h.set k).1 hk)).2

/-- What others turn turns no row of mine. -/
theorem Row.step (h : Row w e size T v n xs) (g : Step S U w w') (hd : Dis T S) : Row w' e size T v n xs := by
  refine ⟨⟨h.own.1, ?_⟩, h.set⟩
  rcases h.own.2 with h1 | ⟨b, cap, cur, rfl, h0, hb, r⟩
  · exact .inl h1
  · exact .inr ⟨b, cap, cur, rfl, h0, (g.block b (lt_of_block hb) (hd b ((h.set b).2 rfl))).trans hb, r⟩

theorem Row.alloc (h : Row w e size T v n xs) (o : Obj) : Row (w.alloc o) e size T v n xs := ⟨h.own.alloc o, h.set⟩
theorem Row.drew (h : Row w e size T v n xs) : Row w.drew e size T v n xs := ⟨h.own.drew, h.set⟩

theorem Row.cells {b cap : Nat} (h : Row w e size T (.slice (some ⟨b, 0, none⟩) n cap) n xs) (j : Nat) (hj : j < n * size) : w.cell? ⟨b, j, none⟩ = xs[j]? := h.own.cellAt j hj
end

/-- a new row: what it holds at first -/
theorem Row.made (w : World) (cs : Array Value) (e : TypeId) (size n : Nat) (hm : n ≤ maxLen) (hs : cs.size = n * size) : Row (w.alloc (.cells cs e)) e size (fun k => k = w.heap.size) (.slice (some ⟨w.heap.size, 0, none⟩) n n) n cs.toList :=
  ⟨World.ownsRow_lit w cs n (Nat.zero_le _) hm hs, fun k => by simp [Value.ownBlock, eq_comm]⟩

/-- append ONTO A ROW OF ONE's OWN: the row that comes is the old one's block or a new one. -/
theorem run_append_row {P : Program} (w : World) (t ty e : TypeId) (i : TypeInfo) (z : Value) (size bytes : Nat) (ht : P.underlying t = some (.slice e)) (hi : P.info? e = some i) (hz : i.zero = some z)
    (hsize : i.size = size) (hby : i.bytes = bytes) (hzs : z.cells.size = size) (hsz : 0 < size)
    {T : Nat → Prop} (v : Value) (n : Nat) (xs : List Value) (hrow : Row w e size T v n xs)
    (ao : Option Addr) (m c : Nat) (news : List Value) (hno : ao = none → m = 0 ∧ c = 0) (hl : news.length = m * size) (hnews : ∀ a, ao = some a → ∀ j u, news[j]? = some u → w.cell? (a.add j) = some u) (h1 : ∀ u ∈ news, u.oneCell' = true)
    (h63 : n + m ≤ maxLen) (hbytes : (n + m) * bytes ≤ 140737488355328) :
    ∃ v' w' T', (Builtin.append_ #[t, t] ty #[v, .slice ao m c]).run P w = .ok v' w' ∧ Row w' e size T' v' (n + m) (xs ++ news) ∧ Step T T' w w' := by
  cases ao with
  | none =>
    obtain ⟨rfl, rfl⟩ := hno rfl
    obtain rfl : news = [] := List.eq_nil_of_length_eq_zero (by simpa using hl)
    exact ⟨v, w, T, run_append_owned_none (P := P) w 0 t ty e i size ht hi v n xs hrow.own, by simpa using hrow, Step.refl _ _⟩
  | some a =>
    rcases hrow.own.2 with ⟨rfl, rfl⟩ | ⟨g, cap, cur, rfl, hbg, hg, hnc, hcm, hcs, htake⟩
    · obtain rfl : xs = [] := List.eq_nil_of_length_eq_zero (by simpa using hrow.own.1)
      obtain ⟨v', w', hr, r1, r2, _⟩ := run_append_own (P := P) w w.heap.size t ty e i z size bytes ht hi hz hsize hby hzs hsz _ 0 [] (World.ownsRow_nil w _ e size) a m c news hl (hnews a rfl) h1 h63 hbytes (Nat.le_refl _)
      have hlt := r1.lt
      refine ⟨v', w', fun k => v'.ownBlock = some k, hr, ⟨⟨r1.1, ?_⟩, fun _ => Iff.rfl⟩, ⟨r2.os, r2.tape, r2.output, r2.size, fun k hk _ => r2.block k hk (by simp [Value.ownBlock]), fun k hk => .inr (hlt k hk).1⟩⟩
      rcases r1.2 with h | ⟨g, cap, cur, h⟩
      · exact .inl h
      · exact .inr ⟨g, cap, cur, h.1, Nat.zero_le _, h.2.2⟩
    · by_cases hroom : n + m ≤ cap
      · obtain ⟨w', hr, r1, r2⟩ := run_append_fits (P := P) w 0 t ty e i size ht hi hsize g n cap xs hrow.own a m c news hl (hnews a rfl) h1 hroom
        exact ⟨_, w', T, hr, ⟨r1, fun k => by rw [hrow.set k]; simp [Value.ownBlock]⟩, ⟨r2.os, r2.tape, r2.output, r2.size, fun k hk hT => r2.block k hk (fun e => hT ((hrow.set k).2 (by simpa [Value.ownBlock] using e.symm))), fun k hk => .inl hk⟩⟩
      · have holds : ∀ j u, xs[j]? = some u → w.cell? ((⟨g, 0, none⟩ : Addr).add j) = some u := hrow.own.cells (g := g) rfl
        obtain ⟨v', w', hr, r1, r2⟩ := run_append_arg_grows (P := P) w t ty e i z size bytes ht hi hz hsize hby hzs hsz ⟨g, 0, none⟩ n cap xs hrow.own.1 holds a m c news hl (hnews a rfl) (by omega) h63 hbytes
        have hlt := r1.lt
        refine ⟨v', w', fun k => v'.ownBlock = some k, hr, ⟨⟨r1.1, ?_⟩, fun _ => Iff.rfl⟩, ⟨r2.os, r2.tape, r2.output, r2.size, fun k hk _ => r2.block k hk (by simp), fun k hk => .inr (hlt k hk).1⟩⟩
        rcases r1.2 with h | ⟨g, cap, cur, h⟩
        · exact .inl h
        · exact .inr ⟨g, cap, cur, h.1, Nat.zero_le _, h.2.2⟩

/-- as one step of a region that draws -/
theorem step_append_row {P : Program} {ops : Array Oper} {o : Oper} {a : Act} {w : World} {K : Act → World → Prop} {Q : Exit → Act → World → Prop} {E : Prop}
    (hg : o.guard = none) (s x : Operand) (t : TypeId) (hop : o.op = Op.call { callee := Callee.builtin Builtin.append, args := #[s, x], argTypes := #[t, t] })
    (e : TypeId) (i : TypeInfo) (z : Value) (size bytes : Nat) (h1 : P.underlying t = some (.slice e)) (h2 : P.info? e = some i) (h3 : i.zero = some z) (h4 : i.size = size) (h5 : i.bytes = bytes) (h6 : z.cells.size = size) (h7 : 0 < size)
    {T : Nat → Prop} (v : Value) (n : Nat) (xs : List Value) (hs : a.eval s = v) (hrow : Row w e size T v n xs)
    (ao : Option Addr) (m c : Nat) (news : List Value) (hx : a.eval x = .slice ao m c) (hno : ao = none → m = 0 ∧ c = 0) (hn : news.length = m * size) (hc : ∀ a, ao = some a → ∀ j u, news[j]? = some u → w.cell? (a.add j) = some u) (h1c : ∀ u ∈ news, u.oneCell' = true)
    (b1 : n + m ≤ maxLen) (b2 : (n + m) * bytes ≤ 140737488355328)
    (hK : ∀ v' w' T', Row w' e size T' v' (n + m) (xs ++ news) → Step T T' w w' → K (a.put o.dst v') w') :
    if Region.wanted o (yielded ops a.tmps) = true then Oper.wp P o a w K Q else E := by
  have hw : Region.wanted o (yielded ops a.tmps) = true := by simp [Region.wanted, hg]
  rw [if_pos hw]
  obtain ⟨v', w', T', hrun, r1, r2⟩ := run_append_row (P := P) w t o.type e i z size bytes h1 h2 h3 h4 h5 h6 h7 v n xs hrow ao m c news hno hn hc h1c b1 b2
  unfold Oper.wp
  simp [execOp, hop, resolve, invoke, builtin, hs, hx, hrun, Result.andThen]
  exact hK v' w' T' r1 r2

/-- as an operation of a list -/
theorem wpList_append_row {P : Program} {w : World} {ops : Array Oper} {rest : List Oper} {o : Oper} {a : Act} {Q : Exit → Act → World → Prop} (hgd : o.guard = none) (s x : Operand) (t : TypeId)
    (ho : o.op = .call { callee := .builtin .append, args := #[s, x], argTypes := #[t, t] })
    (e : TypeId) (i : TypeInfo) (z : Value) (size bytes : Nat) (h1 : P.underlying t = some (.slice e)) (h2 : P.info? e = some i) (h3 : i.zero = some z) (h4 : i.size = size) (h5 : i.bytes = bytes) (h6 : z.cells.size = size) (h7 : 0 < size)
    {T : Nat → Prop} (v : Value) (n : Nat) (xs : List Value) (hs : a.eval s = v) (hrow : Row w e size T v n xs)
    (ao : Option Addr) (m c : Nat) (news : List Value) (hx : a.eval x = .slice ao m c) (hno : ao = none → m = 0 ∧ c = 0) (hn : news.length = m * size) (hc : ∀ a, ao = some a → ∀ j u, news[j]? = some u → w.cell? (a.add j) = some u) (h1c : ∀ u ∈ news, u.oneCell' = true)
    (b1 : n + m ≤ maxLen) (b2 : (n + m) * bytes ≤ 140737488355328)
    (h : ∀ v' w' T', Row w' e size T' v' (n + m) (xs ++ news) → Step T T' w w' → wpList P ops Q rest (a.put o.dst v') w') : wpList P ops Q (o :: rest) a w := by
  refine wpList_plain hgd fun K hK => ?_
  obtain ⟨v', w', T', hrun, r1, r2⟩ := run_append_row (P := P) w t o.type e i z size bytes h1 h2 h3 h4 h5 h6 h7 v n xs hrow ao m c news hno hn hc h1c b1 b2
  unfold Oper.wp
  simp [execOp, ho, resolve, invoke, builtin, hs, hx, hrun, Result.andThen]
  exact hK _ _ (h v' w' T' r1 r2)

theorem cell_new_byte (w : World) (c : UInt8) (t : TypeId) : ∀ a, some (⟨w.heap.size, 0, none⟩ : Addr) = some a → ∀ j u, [byteV c][j]? = some u → (w.alloc (.cells #[.int .u8 (c.toNat : Int)] t)).cell? (a.add j) = some u := by
  intro a ha j u hj
  cases ha
  match j, hj with
  | 0, hj => simp at hj; subst hj; simp [Addr.add, byteV]

/-- A slice value in the region S of memory reads as these bytes. -/
def View (w : World) (S : Nat → Prop) (ao : Option Addr) (l : List UInt8) : Prop :=
  l = [] ∨ ∃ b o, ao = some ⟨b, o, none⟩ ∧ S b ∧ b < w.heap.size ∧ ∀ j, j < l.length → w.cell? ⟨b, o + j, none⟩ = some (.int .u8 ((l.getD j 0).toNat : Int))

theorem View.step {w w' : World} {S T U : Nat → Prop} {ao : Option Addr} {l : List UInt8} (h : View w S ao l) (g : Step T U w w') (hd : Dis S T) : View w' S ao l := by
  rcases h with h | ⟨b, o, e, hS, hb, hc⟩
  · exact .inl h
  · exact .inr ⟨b, o, e, hS, Nat.lt_of_lt_of_le hb g.size, fun j hj => (World.cell?_of_block (w := w) (g.block b hb (hd b hS))).trans (hc j hj)⟩

theorem View.live {w : World} {D : Nat → Prop} {ao : Option Addr} {l : List UInt8} (h : View w D ao l) : View w (fun k => D k ∧ k < w.heap.size) ao l := by
  rcases h with h | ⟨b, o, e, hS, hb, hc⟩
  · exact .inl h
  · exact .inr ⟨b, o, e, ⟨hS, hb⟩, hb, hc⟩

theorem Dis.step {D S T : Nat → Prop} {w w' : World} (hd : Dis D S) (hs : Step S T w w') : Dis (fun k => D k ∧ k < w.heap.size) T :=
  fun k hk ht => (hs.new k ht).elim (hd k hk.1) (fun h => absurd hk.2 (by omega))

theorem Dis.symm {S T : Nat → Prop} (h : Dis S T) : Dis T S := fun k ht hs => h k hs ht

/-- two objects stay apart when one of them grows -/
theorem Dis.grow {S T U : Nat → Prop} {w w' : World} (hd : Dis S U) (hu : ∀ k, U k → k < w.heap.size) (hs : Step S T w w') : Dis T U :=
  fun k ht hk => (hs.new k ht).elim (fun h => hd k h hk) (fun h => absurd (hu k hk) (by omega))

/-- all that an object holds lies from B on -/
theorem Step.from {S T : Nat → Prop} {w w' : World} {B : Nat} (hs : Step S T w w') (h : ∀ k, S k → B ≤ k) (hB : B ≤ w.heap.size) : ∀ k, T k → B ≤ k :=
  fun k ht => (hs.new k ht).elim (h k) (fun g => Nat.le_trans hB g)

theorem Step.fresh {T : Nat → Prop} {w w' : World} {B : Nat} (hs : Step (fun _ => False) T w w') (hB : B ≤ w.heap.size) : Below B w w' ∧ (∀ k, T k → B ≤ k) ∧ (∀ k, T k → w.heap.size ≤ k) :=
  ⟨hs.below hB (fun _ h => h.elim), hs.from (fun _ h => h.elim) hB, fun k h => (hs.new k h).elim (fun h => h.elim) id⟩

theorem Row.view {w : World} {e : TypeId} {T : Nat → Prop} {ao : Option Addr} {n cap : Nat} {l : List UInt8} (h : Row w e 1 T (.slice ao n cap) n (l.map byteV)) : View w T ao l := by
  have hl : l.length = n := by simpa using h.own.1
  obtain ⟨ao', cap', hv, _, _, h0, h1⟩ := h.form
  simp only [Value.slice.injEq, true_and] at hv
  obtain ⟨rfl, rfl⟩ := hv
  cases ao with
  | none => have := (h0 rfl).1; exact .inl (List.eq_nil_of_length_eq_zero (by omega))
  | some a =>
    obtain ⟨g, rfl, hT⟩ := h1 a rfl
    refine .inr ⟨g, 0, rfl, hT, h.lt g hT, fun j hj => ?_⟩
    rw [Nat.zero_add, h.cells j (by rw [Nat.mul_one]; omega)]
    simp [byteV, hj]

theorem Step.pre {S S' T : Nat → Prop} {w w1 w2 : World} (h : Step (fun _ => False) T w w1) (g : Step S S' w1 w2) : Step S S' w w2 :=
  ⟨g.os.trans h.os, g.tape.trans h.tape, g.output.trans h.output, Nat.le_trans h.size g.size, fun k hk hs => (g.block k (Nat.lt_of_lt_of_le hk h.size) hs).trans (h.block k hk (fun h => h)), fun k hk => (g.new k hk).imp id (Nat.le_trans h.size)⟩

end Go.Own

end
section
namespace Go.Own
open Go.RowKit

/-- an object: what is so of it, given the blocks that it holds; what others turn does not touch it -/
structure Asn where
  holds : (Nat → Prop) → World → Prop
  keep : ∀ {S T U : Nat → Prop} {w w' : World}, holds S w → Step T U w w' → Dis S T → holds S w'
  lt : ∀ {S : Nat → Prop} {w : World}, holds S w → ∀ k, S k → k < w.heap.size

/-- the objects lie apart, and hold the blocks S together -/
def Apart (w : World) : List Asn → (Nat → Prop) → Prop
  | [], S => ∀ k, ¬ S k
  | P :: Ps, S => ∃ S1 S2, P.holds S1 w ∧ Apart w Ps S2 ∧ Dis S1 S2 ∧ ∀ k, S k ↔ (S1 k ∨ S2 k)

theorem Apart.lt {w : World} : ∀ {Ps : List Asn} {S : Nat → Prop}, Apart w Ps S → ∀ k, S k → k < w.heap.size
  | [], _, h, k, hk => absurd hk (h k)
  | P :: _, _, ⟨_, _, h1, h2, _, h4⟩, k, hk => ((h4 k).1 hk).elim (P.lt h1 k) (fun h => h2.lt k h)

theorem Apart.keep {w w' : World} {T U : Nat → Prop} (g : Step T U w w') : ∀ {Ps : List Asn} {S : Nat → Prop}, Apart w Ps S → Dis S T → Apart w' Ps S
  | [], _, h, _ => h
  | P :: _, _, ⟨S1, S2, h1, h2, h3, h4⟩, hd => ⟨S1, S2, P.keep h1 g (fun k hk => hd k ((h4 k).2 (.inl hk))), h2.keep g (fun k hk => hd k ((h4 k).2 (.inr hk))), h3, h4⟩

/-- one of them is looked at, turned into something else, and put back -/
theorem Apart.at {w : World} : ∀ {Ps : List Asn} {S : Nat → Prop} (i : Nat) {P : Asn}, Apart w Ps S → Ps[i]? = some P →
    ∃ Si, P.holds Si w ∧ (∀ k, Si k → S k) ∧ (∀ (j : Nat) (R : Asn), j ≠ i → Ps[j]? = some R → ∃ Sj, R.holds Sj w ∧ Dis Sj Si) ∧
      ∀ (S' : Nat → Prop) (w' : World) (Q : Asn), Q.holds S' w' → Step Si S' w w' → ∃ S'', Apart w' (Ps.set i Q) S'' ∧ (∀ k, S'' k → S k ∨ S' k)
  | [], _, i, _, _, hi => by simp at hi
  | P :: Ps, S, 0, P', ⟨S1, S2, h1, h2, h3, h4⟩, hi => by
    obtain rfl : P = P' := by simpa using hi
    refine ⟨S1, h1, fun k hk => (h4 k).2 (.inl hk), fun j R hj hR => ?_, fun S' w' Q hQ hs => ⟨fun k => S' k ∨ S2 k, ⟨S', S2, hQ, h2.keep hs h3.symm, h3.grow h2.lt hs, fun k => Iff.rfl⟩, fun k hk => hk.elim .inr (fun h => .inl ((h4 k).2 (.inr h)))⟩⟩
    match j, hj with
    | j + 1, _ =>
      obtain ⟨Sj, g1, g2, _⟩ := h2.at j (by simpa using hR)
      exact ⟨Sj, g1, fun k hk hk' => h3 k hk' (g2 k hk)⟩
  | P :: Ps, S, i + 1, P', ⟨S1, S2, h1, h2, h3, h4⟩, hi => by
    obtain ⟨Si, g1, g2, g4, g3⟩ := h2.at i (by simpa using hi)
    refine ⟨Si, g1, fun k hk => (h4 k).2 (.inr (g2 k hk)), fun j R hj hR => ?_, fun S' w' Q hQ hs => ?_⟩
    · match j, hj with
      | 0, _ =>
        obtain rfl : P = R := by simpa using hR
        exact ⟨S1, h1, fun k hk hk' => h3 k hk (g2 k hk')⟩
      | j + 1, hj => exact g4 j R (by omega) (by simpa using hR)
    obtain ⟨S'', k1, k2⟩ := g3 S' w' Q hQ hs
    have hd : Dis S1 Si := fun k hk hk' => h3 k hk (g2 k hk')
    have hd' : Dis S1 S' := (hd.symm.grow (P.lt h1) hs).symm
    exact ⟨fun k => S1 k ∨ S'' k, ⟨S1, S'', P.keep h1 hs hd, k1, fun k hk hk' => (k2 k hk').elim (h3 k hk) (hd' k hk), fun k => Iff.rfl⟩, fun k hk => hk.elim (fun h => .inl ((h4 k).2 (.inl h))) (fun h => (k2 k h).imp (fun g => (h4 k).2 (.inr g)) id)⟩

/-- THE STATE OF A CALL: since w0 nothing below B has turned; these objects lie apart, from B on. -/
structure St (B : Nat) (w0 w : World) (Ps : List Asn) : Prop where
  below : Below B w0 w
  size : B ≤ w.heap.size
  own : ∃ S, Apart w Ps S ∧ ∀ k, S k → B ≤ k

theorem St.start (w : World) : St w.heap.size w w [] := ⟨Below.refl _ _, Nat.le_refl _, fun _ => False, fun _ h => h, fun _ h => h.elim⟩

section
variable {B : Nat} {w0 w w' : World} {Ps : List Asn}

theorem St.at (h : St B w0 w Ps) (i : Nat) {P : Asn} (hi : Ps[i]? = some P) :
    ∃ Si, P.holds Si w ∧ (∀ k, Si k → B ≤ k) ∧ ∀ (S' : Nat → Prop) (w' : World) (Q : Asn), Q.holds S' w' → Step Si S' w w' → St B w0 w' (Ps.set i Q) := by
  obtain ⟨hb, hs, S, ha, hB⟩ := h
  obtain ⟨Si, g1, g2, _, g3⟩ := ha.at i hi
  refine ⟨Si, g1, fun k hk => hB k (g2 k hk), fun S' w' Q hQ hst => ?_⟩
  obtain ⟨S'', k1, k2⟩ := g3 S' w' Q hQ hst
  exact ⟨hb.trans (hst.below hs (fun k hk => hB k (g2 k hk))), Nat.le_trans hs hst.size, S'', k1, fun k hk => (k2 k hk).elim (hB k) (fun g => (hst.new k g).elim (fun g => hB k (g2 k g)) (Nat.le_trans hs))⟩

/-- one of them, and another beside it -/
theorem St.at2 (h : St B w0 w Ps) (i j : Nat) (hij : j ≠ i) {P R : Asn} (hi : Ps[i]? = some P) (hj : Ps[j]? = some R) :
    ∃ Si Sj, P.holds Si w ∧ R.holds Sj w ∧ Dis Sj Si ∧ (∀ k, Si k → B ≤ k) ∧ ∀ (S' : Nat → Prop) (w' : World) (Q : Asn), Q.holds S' w' → Step Si S' w w' → St B w0 w' (Ps.set i Q) := by
  obtain ⟨hb, hs, S, ha, hB⟩ := h
  obtain ⟨Si, g1, g2, g4, g3⟩ := ha.at i hi
  obtain ⟨Sj, f1, f2⟩ := g4 j R hij hj
  refine ⟨Si, Sj, g1, f1, f2, fun k hk => hB k (g2 k hk), fun S' w' Q hQ hst => ?_⟩
  obtain ⟨S'', k1, k2⟩ := g3 S' w' Q hQ hst
  exact ⟨hb.trans (hst.below hs (fun k hk => hB k (g2 k hk))), Nat.le_trans hs hst.size, S'', k1, fun k hk => (k2 k hk).elim (hB k) (fun g => (hst.new k g).elim (fun g => hB k (g2 k g)) (Nat.le_trans hs))⟩

/-- one of them has turned, and something new is there -/
theorem St.more (h : St B w0 w Ps) (i : Nat) {P : Asn} (hi : Ps[i]? = some P) :
    ∃ Si, P.holds Si w ∧ ∀ (S' T' : Nat → Prop) (w' : World) (Q R : Asn), Q.holds S' w' → R.holds T' w' → Step Si S' w w' → (∀ k, T' k → w.heap.size ≤ k) → (∀ k, S' k → k < w.heap.size) → St B w0 w' (R :: Ps.set i Q) := by
  obtain ⟨hb, hs, S, ha, hB⟩ := h
  obtain ⟨Si, g1, g2, _, g3⟩ := ha.at i hi
  refine ⟨Si, g1, fun S' T' w' Q R hQ hR hst hT hS' => ?_⟩
  obtain ⟨S'', k1, k2⟩ := g3 S' w' Q hQ hst
  refine ⟨hb.trans (hst.below hs (fun k hk => hB k (g2 k hk))), Nat.le_trans hs hst.size, fun k => T' k ∨ S'' k, ⟨T', S'', hR, k1, fun k ht hk => ?_, fun k => Iff.rfl⟩, fun k hk => ?_⟩
  · have := hT k ht
    exact (k2 k hk).elim (fun g => by have := ha.lt k g; omega) (fun g => by have := hS' k g; omega)
  · exact hk.elim (fun g => Nat.le_trans hs (hT k g)) (fun g => (k2 k g).elim (hB k) (fun g => (hst.new k g).elim (fun g => hB k (g2 k g)) (Nat.le_trans hs)))

/-- something new -/
theorem St.new (h : St B w0 w Ps) {S' : Nat → Prop} (Q : Asn) (hQ : Q.holds S' w') (hst : Step (fun _ => False) S' w w') : St B w0 w' (Q :: Ps) := by
  obtain ⟨hb, hs, S, ha, hB⟩ := h
  refine ⟨hb.trans (hst.below hs (fun _ h => h.elim)), Nat.le_trans hs hst.size, fun k => S' k ∨ S k, ⟨S', S, hQ, ha.keep hst (fun _ _ h => h), fun k h1 h2 => (hst.new k h1).elim (fun h => h) (fun h => by have := ha.lt k h2; omega), fun k => Iff.rfl⟩, fun k hk => hk.elim (fun h => (hst.new k h).elim (fun h => h.elim) (Nat.le_trans hs)) (hB k)⟩

/-- nothing that is held has turned -/
theorem St.quiet (h : St B w0 w Ps) {T : Nat → Prop} (hst : Step (fun _ => False) T w w') : St B w0 w' Ps := by
  obtain ⟨hb, hs, S, ha, hB⟩ := h
  exact ⟨hb.trans (hst.below hs (fun _ h => h.elim)), Nat.le_trans hs hst.size, S, ha.keep hst (fun _ _ h => h), hB⟩

theorem St.alloc (h : St B w0 w Ps) (o : Obj) : St B w0 (w.alloc o) Ps := h.quiet ((Step.refl (fun _ => False) w).alloc o)
theorem St.drew (h : St B w0 w Ps) : St B w0 w.drew Ps := h.quiet ((Step.refl (fun _ => False) w).drew)
theorem St.drewN (h : St B w0 w Ps) (n : Nat) : St B w0 (w.drewN n) Ps := h.quiet ((Step.refl (fun _ => False) w).drewN n)

/-- something is let go -/
theorem Apart.drop {w : World} : ∀ {Ps : List Asn} {S : Nat → Prop} (n : Nat), Apart w Ps S → ∃ S', Apart w (Ps.drop n) S' ∧ ∀ k, S' k → S k
  | Ps, S, 0, h => ⟨S, by simpa using h, fun _ h => h⟩
  | [], S, n + 1, h => ⟨S, by simpa using h, fun _ h => h⟩
  | _ :: _, _, n + 1, ⟨_, _, _, h2, _, h4⟩ => by
    obtain ⟨S', g1, g2⟩ := h2.drop n
    exact ⟨S', by simpa using g1, fun k hk => (h4 k).2 (.inr (g2 k hk))⟩
theorem St.drop (h : St B w0 w Ps) (n : Nat) : St B w0 w (Ps.drop n) := by
  obtain ⟨hb, hs, S, ha, hB⟩ := h
  obtain ⟨S', g1, g2⟩ := ha.drop n
  exact ⟨hb, hs, S', g1, fun k hk => hB k (g2 k hk)⟩

end

/-- old memory reads as it did -/
theorem View.below {w w' : World} {B : Nat} {ao : Option Addr} {l : List UInt8} (h : View w (fun k => k < B) ao l) (g : Below B w w') : View w' (fun k => k < B) ao l := by
  rcases h with h | ⟨b, o, e, hS, hb, hc⟩
  · exact .inl h
  · exact .inr ⟨b, o, e, hS, Nat.lt_of_lt_of_le hb g.size, fun j hj => (World.cell?_of_block (w := w) (g.block b hS)).trans (hc j hj)⟩

theorem View.same {w w' : World} {B : Nat} {ao : Option Addr} {l : List UInt8} (h : View w (fun k => k < B) ao l) (g : ∀ k, k < B → w'.heap[k]? = w.heap[k]?) : View w' (fun k => k < B) ao l := by
  rcases h with h | ⟨b, o, e, hS, hb, hc⟩
  · exact .inl h
  · refine .inr ⟨b, o, e, hS, ?_, fun j hj => (World.cell?_of_block (w := w) (g b hS)).trans (hc j hj)⟩
    have := g b hS
    rw [Array.getElem?_eq_getElem hb] at this
    exact (Array.getElem?_eq_some_iff.1 this).1

/-- two worlds of one call -/
theorem Below.both {B : Nat} {W w w' : World} (h : Below B W w) (g : Below B W w') : ∀ k, k < B → w'.heap[k]? = w.heap[k]? := fun k hk => (g.block k hk).trans (h.block k hk).symm

theorem View.mono {w : World} {D D' : Nat → Prop} {ao : Option Addr} {l : List UInt8} (h : View w D ao l) (hd : ∀ k, D k → D' k) : View w D' ao l := by
  rcases h with h | ⟨b, o, e, hS, hb, hc⟩
  · exact .inl h
  · exact .inr ⟨b, o, e, hd b hS, hb, hc⟩

/-- a row as an object -/
def ARow (e : TypeId) (size : Nat) (v : Value) (n : Nat) (xs : List Value) : Asn where
  holds S w := Row w e size S v n xs
  keep h g hd := h.step g hd
  lt h := h.lt

/-- a block of one's own, known whole -/
def ABlk (b : Nat) (o : Obj) : Asn where
  holds S w := w.heap[b]? = some o ∧ ∀ k, S k ↔ k = b
  keep h g hd := ⟨(g.block _ (lt_of_block h.1) (hd _ ((h.2 _).2 rfl))).trans h.1, h.2⟩
  lt h k hk := by rw [(h.2 k).1 hk]; exact lt_of_block h.1

theorem St.block {B : Nat} {w0 w : World} {Ps : List Asn} (h : St B w0 w Ps) (i : Nat) {b : Nat} {o : Obj} (hi : Ps[i]? = some (ABlk b o)) : w.heap[b]? = some o := by
  obtain ⟨S, hS, _⟩ := h.at i hi
  exact hS.1

theorem St.box {B : Nat} {w0 w : World} {Ps : List Asn} (h : St B w0 w Ps) (o : Obj) : St B w0 (w.alloc o) (ABlk w.heap.size o :: Ps) :=
  h.new (S' := fun k => k = w.heap.size) (ABlk w.heap.size o) ⟨heap_alloc_new w o, fun _ => Iff.rfl⟩ (((Step.refl (fun _ => False) w).alloc o).to (fun k hk => Or.inr (Nat.le_of_eq hk.symm)))

end Go.Own

end
section
namespace Go.Own
open Go.RowKit

theorem size_alloc' (w : World) (o : Obj) : (w.alloc o).heap.size = w.heap.size + 1 := by simp

/-- a block of one's own with these cells -/
def AVals (b : Nat) (t : TypeId) (vs : List Value) : Asn := ABlk b (.cells vs.toArray t (0, 0))

section
variable {B : Nat} {w0 w : World} {Ps : List Asn} {b : Nat} {t : TypeId} {vs : List Value}

theorem St.cellV (h : St B w0 w Ps) (i : Nat) (hi : Ps[i]? = some (AVals b t vs)) (j : Nat) {v : Value} (hj : vs[j]? = some v) : w.cell? ⟨b, j, none⟩ = some v ∧ w.frozen? ⟨b, j, none⟩ = false := by
  have hb := h.block i hi
  exact ⟨cell_of_block hb (by simpa using hj), frozen_of_block hb⟩

theorem St.storeV (h : St B w0 w Ps) (i : Nat) (hi : Ps[i]? = some (AVals b t vs)) (j : Nat) (v : Value) : St B w0 (w.setCell ⟨b, j, none⟩ v) (Ps.set i (AVals b t (vs.set j v))) := by
  obtain ⟨S, hS, _, put⟩ := h.at i hi
  refine put S _ (AVals b t (vs.set j v)) ⟨?_, hS.2⟩ ((Step.refl S w).setCell (a := ⟨b, j, none⟩) (Or.inl ((hS.2 b).2 rfl)) _)
  rw [block_setCell hS.1]
  simp

theorem St.boxV (h : St B w0 w Ps) (t : TypeId) (vs : List Value) : St B w0 (w.alloc (.cells vs.toArray t)) (AVals w.heap.size t vs :: Ps) := h.box _

/-- all its cells are written -/
theorem St.setAll (i : Nat) : ∀ (r : List Value) (o : Nat) (w : World) (Ps : List Asn) (vs : List Value), St B w0 w Ps → Ps[i]? = some (AVals b t vs) → o + r.length = vs.length → St B w0 (w.setCells b o r) (Ps.set i (AVals b t (vs.take o ++ r)))
  | [], o, w, Ps, vs, h, hi, hl => by
    have e : vs.take o ++ [] = vs := by rw [List.append_nil, List.take_of_length_le (by simp at hl; omega)]
    rw [e]
    have : Ps.set i (AVals b t vs) = Ps := by
      apply List.ext_getElem?
      intro j
      by_cases hj : j = i
      · subst hj
        have hlt : j < Ps.length := (List.getElem?_eq_some_iff.1 hi).1
        rw [List.getElem?_set_self hlt, hi]
      · rw [List.getElem?_set_ne (Ne.symm hj)]
    rw [this]
    exact h
  | v :: r, o, w, Ps, vs, h, hi, hl => by
    have hlt : i < Ps.length := (List.getElem?_eq_some_iff.1 hi).1
    have h1 := h.storeV i hi o v
    have h2 := St.setAll i r (o + 1) _ _ (vs.set o v) h1 (by rw [List.getElem?_set_self hlt]) (by simp at hl ⊢; omega)
    rw [List.set_set] at h2
    have e : (vs.set o v).take (o + 1) ++ r = vs.take o ++ v :: r := by
      have ho : o < vs.length := by simp at hl; omega
      have e0 : (vs.set o v).take o = vs.take o := by
        apply List.ext_getElem?
        intro j
        by_cases hj : j < o
        · rw [List.getElem?_take_of_lt hj, List.getElem?_take_of_lt hj, List.getElem?_set_ne (by omega)]
        · rw [List.getElem?_eq_none (by simp; omega), List.getElem?_eq_none (by simp; omega)]
      rw [List.take_succ_eq_append_getElem (by simpa using ho), e0]
      simp
    rw [e] at h2
    exact h2

/-- the block whole, as the laws on rows want it -/
theorem St.rowV (h : St B w0 w Ps) (i : Nat) (hi : Ps[i]? = some (AVals b t vs)) : w.heap[b]? = some (.cells vs.toArray t (0, 0)) := h.block i hi
theorem St.thereV (h : St B w0 w Ps) (i : Nat) (hi : Ps[i]? = some (AVals b t vs)) {n : Nat} (hn : n ≤ vs.length) : w.there b 0 n := by
  intro j hj
  obtain ⟨h1, h2⟩ := h.cellV i hi j (v := vs[j]) (by simp [show j < vs.length by omega])
  rw [Nat.zero_add]
  exact ⟨by rw [h1]; rfl, h2⟩

/-- nothing that is there has turned -/
theorem St.later {w' : World} (h : St B w0 w Ps) (hb : Below w.heap.size w w') : St B w0 w' Ps :=
  h.quiet (T := fun _ => False) ⟨hb.os, hb.tape, hb.output, hb.size, fun k hk _ => hb.block k hk, fun _ h => h.elim⟩

/-- which block it is: apart from every older one -/
theorem St.ltV (h : St B w0 w Ps) (i : Nat) (hi : Ps[i]? = some (AVals b t vs)) : B ≤ b ∧ b < w.heap.size := by
  obtain ⟨S, hS, hB, _⟩ := h.at i hi
  exact ⟨hB b ((hS.2 b).2 rfl), lt_of_block hS.1⟩
end
end Go.Own

end
section
namespace Go.Own
open Go.RowKit
/-- two results, the first a variable of many cells -/
theorem results_cell_two {P : Program} {fn : Func} {p q : Tmp} {ty : TypeId} (h : fn.results = #[.cell p ty, .tmp q]) (tmps : Array Value) (w : World) (g : Nat) (t : TypeId) (cs : Array Value) (fr : Nat × Nat) (d : TypeDesc) (v : Value)
    (hp : tmps.getD p undef = .pointer (some ⟨g, 0, none⟩)) (hq : tmps.getD q undef = v) (hg : w.heap[g]? = some (.cells cs t fr))
    (hu : P.underlying ty = some d) (hd : (match d with | .struct _ | .array _ _ => true | _ => false) = true) (hi : (P.info? ty).map (·.size) = some cs.size) :
    (results fn tmps).run P w = .ok (.tuple #[.agg cs, v]) w := by
  have hp' : tmps[p]?.getD undef = .pointer (some ⟨g, 0, none⟩) := by simpa using hp
  have hq' : tmps[q]?.getD undef = v := by simpa using hq
  simp [results, h, hp', hq', asAddr, run_loadVar_row w g t ty cs fr d hg hu hd hi]
theorem results_four {P : Program} {fn : Func} {a b c d : Tmp} (h : fn.results = #[.tmp a, .tmp b, .tmp c, .tmp d]) (tmps : Array Value) (w : World) {va vb vc vd : Value} (ha : tmps.getD a undef = va) (hb : tmps.getD b undef = vb) (hc : tmps.getD c undef = vc) (hd : tmps.getD d undef = vd) :
    (results fn tmps).run P w = .ok (.tuple #[va, vb, vc, vd]) w := by
  have ha' : tmps[a]?.getD undef = va := by simpa using ha
  have hb' : tmps[b]?.getD undef = vb := by simpa using hb
  have hc' : tmps[c]?.getD undef = vc := by simpa using hc
  have hd' : tmps[d]?.getD undef = vd := by simpa using hd
  simp [results, h, ha', hb', hc', hd']
end Go.Own

end
section
namespace Go.Own
open Go.RowKit

def strB (l : List UInt8) : ByteArray := ⟨l.toArray⟩

theorem strB_nums (l : List UInt8) : strOfNums (l.map fun c => (c.toNat : Int)) = strB l := by
  apply ByteArray.ext
  apply Array.toList_inj.1
  show (strOfNums _).data.toList = (strB l).data.toList
  rw [strOfNums_data, List.map_map]
  show _ = l
  conv => rhs; rw [← List.map_id l]
  apply List.map_congr_left
  intro x _
  simp

theorem strB_toList (l : List UInt8) : (strB l).toList = l := by
  rw [Lib.toList_data]; rfl

theorem run_str {P : Program} {w : World} {D : Nat → Prop} {ao : Option Addr} {l : List UInt8} (src e dst : TypeId) (hs : P.underlying src = some (.slice e)) (he : P.underlying e = some (.int .u8)) (hd : P.underlying dst = some .string) (h : View w D ao l) (cap : Nat) :
    (convert src dst (.slice ao l.length cap)).run P w = .ok (.string (strB l)) w := by
  cases ao with
  | none =>
    rcases h with rfl | ⟨b, o, h, _⟩
    · exact run_convert_bytes_nil w src e hs he _ _ dst hd
    · cases h
  | some a =>
    rcases h with rfl | ⟨b, o, h, _, _, hc⟩
    · rw [run_convert_bytes_string w src dst e _ _ _ hs he hd]
      have := run_bytesToString (P := P) w a 0 cap [] (by simp [loadCells, loadCellsFrom])
      exact this
    · cases h
      have := run_convert_bytes_arg (P := P) w src e hs he b o l.length cap (l.map fun c => (c.toNat : Int)) (by simp) (fun i hi => by rw [hc i hi]; simp [List.getD, hi]) dst hd
      rw [this, strB_nums]

end Go.Own

end
section
namespace Go.Own
open Go.RowKit Go.ChangeShapes Go.WideShapes Go.Deep

/-- what is so of the cells of a value of one type, in a world, for plain data -/
abbrev InT (α : Type) := α → Nat → World → List Value → Prop

def inInt (k : IntKind) : InT Int := fun n _ _ cs => cs = [.int k n] ∧ (Lit.int k n).wf = true
/-- a slice: nil, or empty, or leading to its elements -/
def inSlice {α : Type} (size : Nat) (R : InT α) : InT (List α) := fun xs B w cs =>
  ∃ ao cap, cs = [.slice ao xs.length cap] ∧ xs.length ≤ cap ∧ cap ≤ maxLen ∧ (ao = none → cap = 0) ∧
    (xs = [] ∨ ∃ b o, ao = some ⟨b, o, none⟩ ∧ b < B ∧ b < w.heap.size ∧ ∀ i (hi : i < xs.length), ∃ cs', cs'.length = size ∧ (∀ j, j < size → w.cell? ⟨b, o + (i * size + j), none⟩ = cs'[j]?) ∧ R xs[i] B w cs')
def inBytes : InT (List UInt8) := fun l B w cs =>
  ∃ ao cap, cs = [.slice ao l.length cap] ∧ l.length ≤ cap ∧ cap ≤ maxLen ∧ (ao = none → cap = 0) ∧ View w (fun k => k < B) ao l

/-- the form's own reading of a value of type t gives it -/
def Opens {α : Type} (P : Program) (t : TypeId) (R : InT α) : Prop :=
  ∀ (H : Type) (enc : TypeId × Value → H) (w : World) (fuel : Nat) (cs : List Value) (x : DataW H × List MemPlace),
    DataW.trod enc P w 0 (fun _ => true) true fuel t cs = some x → ∃ a, R a w.heap.size w cs

theorem opens_int {P : Program} {t : TypeId} {k : IntKind} (ht : P.underlying t = some (.int k)) : Opens P t (inInt k) := by
  intro H enc w fuel cs x h
  obtain ⟨n, rfl, _, hw⟩ := DataW.trod_int ht h
  exact ⟨n, rfl, hw⟩
theorem add_of (b o j : Nat) : (⟨b, o, none⟩ : Addr).add j = ⟨b, o + j, none⟩ := by unfold Addr.add; split <;> simp_all

/-- elements, one by one, as one list -/
theorem list_of {α : Type} {n : Nat} {p : Nat → α → Prop} (h : ∀ i, i < n → ∃ x, p i x) : ∃ xs : List α, xs.length = n ∧ ∀ i (hi : i < xs.length), p i xs[i] := by
  induction n with
  | zero => exact ⟨[], rfl, fun i hi => absurd hi (Nat.not_lt_zero _)⟩
  | succ n ih =>
    obtain ⟨xs, h1, h2⟩ := ih (fun i hi => h i (by omega))
    obtain ⟨x, hx⟩ := h n (by omega)
    refine ⟨xs ++ [x], by simp [h1], fun i hi => ?_⟩
    by_cases hin : i < xs.length
    · rw [List.getElem_append_left hin]; exact h2 i hin
    · have : i = n := by simp at hi; omega
      subst this
      rw [List.getElem_append_right (by omega)]
      simpa [h1] using hx

theorem opens_slice {α : Type} {P : Program} {t e : TypeId} {R : InT α} (size : Nat) (ht : P.underlying t = some (.slice e)) (hc : P.cellsOf e = size) (hpos : 0 < size) (hR : Opens P e R) : Opens P t (inSlice size R) := by
  intro H enc w fuel cs x h
  rcases open_slice ht h with ⟨rfl, _⟩ | ⟨a, len, cap, m, n, D, Pl, rfl, _, h1, h2, hm, _, hel⟩
  · exact ⟨[], none, 0, rfl, Nat.le_refl _, by unfold maxLen; omega, fun _ => rfl, .inl rfl⟩
  · simp only [if_true] at hm
    subst hm
    rw [hc] at hel
    obtain ⟨xs, k1, k2⟩ := list_of (n := len) (p := fun i (y : α) => ∃ cs', cs'.length = size ∧ (∀ j, j < size → w.cell? ((a.add (i * size)).add j) = cs'[j]?) ∧ R y w.heap.size w cs') (fun i hi => by
      obtain ⟨cs', hcs, hd⟩ := hel i (by omega)
      obtain ⟨y, hy⟩ := hR H enc w n cs' _ hd
      obtain ⟨_, g1, g2⟩ := World.cells?_some hcs
      exact ⟨y, cs', g1, g2, hy⟩)
    subst k1
    refine ⟨xs, some a, m, rfl, h1, h2, fun h => by (cases h), ?_⟩
    rcases Nat.eq_zero_or_pos xs.length with hz | hz
    · exact .inl (List.eq_nil_of_length_eq_zero hz)
    · right
      obtain ⟨b, o, sp⟩ := a
      obtain ⟨cs', g1, g2, _⟩ := k2 0 hz
      have g3 := g2 0 hpos
      have e0 : ((⟨b, o, sp⟩ : Addr).add (0 * size)).add 0 = ⟨b, o, sp⟩ := by simp [Addr.add]
      rw [e0] at g3
      obtain ⟨u, hu⟩ : ∃ u, cs'[0]? = some u := ⟨cs'[0]'(by omega), by simp [show 0 < cs'.length by omega]⟩
      rw [hu] at g3
      have hsp : sp = none := by
        cases sp with
        | none => rfl
        | some s =>
          unfold World.cell? at g3
          split at g3 <;> simp at g3
      subst hsp
      have hlt := World.block_lt_of_cell? w _ g3
      refine ⟨b, o, rfl, hlt, hlt, fun i hi => ?_⟩
      obtain ⟨cs'', f1, f2, f3⟩ := k2 i hi
      exact ⟨cs'', f1, fun j hj => by rw [← f2 j hj, add_of, add_of, Nat.add_assoc], f3⟩

theorem opens_bytes {P : Program} {t e : TypeId} (ht : P.underlying t = some (.slice e)) (he : P.underlying e = some (.int .u8)) (hc : P.cellsOf e = 1) : Opens P t inBytes := by
  intro H enc w fuel cs x h
  obtain ⟨zs, ao, cap, h1, h2, h3, h4, h5⟩ := opens_slice 1 ht hc (by decide) (opens_int he) H enc w fuel cs x h
  refine ⟨zs.map fun z => UInt8.ofNat z.toNat, ao, cap, by simpa using h1, by simpa using h2, h3, h4, ?_⟩
  rcases h5 with rfl | ⟨b, o, e, hb, hs, hcell⟩
  · exact .inl rfl
  · refine .inr ⟨b, o, e, hb, hs, fun j hj => ?_⟩
    rw [List.length_map] at hj
    obtain ⟨cs', g1, g2, g3, g4⟩ := hcell j hj
    subst g3
    have := g2 0 (by decide)
    rw [Nat.mul_one, Nat.add_zero] at this
    rw [this]
    have hw : 0 ≤ zs[j] ∧ zs[j] ≤ 255 := by simpa [Lit.wf, IntKind.min, IntKind.max, IntKind.signed, IntKind.bits] using g4
    have e2 : ((zs.map fun z => UInt8.ofNat z.toNat).getD j 0) = UInt8.ofNat zs[j].toNat := by simp [List.getD, hj]
    rw [e2]
    simp
    omega

end Go.Own

end
