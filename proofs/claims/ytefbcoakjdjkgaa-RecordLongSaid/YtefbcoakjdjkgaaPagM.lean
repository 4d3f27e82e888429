/- The mathematics of layer 9: framed pages as plain data. -/
import Derived.WalkKit
namespace Go.PagM
abbrev Bs := List UInt8
structure Frm where
  kind : UInt8
  first : Bool
  last : Bool
  data : Bs
def zeroF : Frm := ⟨0, false, false, []⟩
def headN (f : Frm) : Nat := f.kind.toNat + (if f.first then 64 else 0) + (if f.last then 128 else 0)
def laid (f : Frm) : Bs := UInt8.ofNat (headN f) :: UInt8.ofNat f.data.length :: (f.data ++ (List.replicate (125 - f.data.length) 0 ++ [90]))
def layE (f : Frm) : Nat := if 63 < f.kind.toNat then 1 else if 125 < f.data.length then 4 else 0
def lay (f : Frm) : Bs × Nat := if layE f = 0 then (laid f, 0) else ([], layE f)
theorem laid_len (f : Frm) (h : f.data.length ≤ 125) : (laid f).length = 128 := by
  unfold laid; simp; omega
theorem lay_ok {f : Frm} (h : layE f = 0) : f.kind.toNat ≤ 63 ∧ f.data.length ≤ 125 := by
  unfold layE at h; split at h
  · omega
  · split at h <;> omega
theorem layE_ok {f : Frm} (h1 : f.kind.toNat ≤ 63) (h2 : f.data.length ≤ 125) : layE f = 0 := by
  unfold layE; rw [if_neg (by omega), if_neg (by omega)]
/-- the frame that bytes would have -/
def guess (b : Bs) : Frm := ⟨UInt8.ofNat ((b.getD 0 0).toNat % 64), decide ((b.getD 0 0).toNat / 64 % 2 = 1), decide ((b.getD 0 0).toNat / 128 = 1), (b.drop 2).take (b.getD 1 0).toNat⟩
def isPage (b : Bs) : Bool := decide (b.length = 128) && decide ((b.getD 1 0).toNat ≤ 125) && decide (laid (guess b) = b)
def take (b : Bs) : Frm × Nat := if isPage b then (guess b, 0) else (zeroF, 90)
theorem ofNat_toNat (n : Nat) (h : n < 256) : (UInt8.ofNat n).toNat = n := by simp; omega
theorem headN_lt {f : Frm} (h : f.kind.toNat ≤ 63) : headN f < 256 := by unfold headN; split <;> split <;> omega
theorem laid_0 (f : Frm) : (laid f).getD 0 0 = UInt8.ofNat (headN f) := rfl
theorem laid_1 (f : Frm) : (laid f).getD 1 0 = UInt8.ofNat f.data.length := rfl
theorem guess_laid {f : Frm} (h1 : f.kind.toNat ≤ 63) (h2 : f.data.length ≤ 125) : guess (laid f) = f := by
  have e0 : (UInt8.ofNat (headN f)).toNat = headN f := ofNat_toNat _ (headN_lt h1)
  have e1 : (UInt8.ofNat f.data.length).toNat = f.data.length := ofNat_toNat _ (by omega)
  obtain ⟨k, a, z, d⟩ := f
  unfold guess
  rw [laid_0, laid_1, e0, e1]
  simp only at h1 h2
  have hk : headN ⟨k, a, z, d⟩ % 64 = k.toNat ∧ decide (headN ⟨k, a, z, d⟩ / 64 % 2 = 1) = a ∧ decide (headN ⟨k, a, z, d⟩ / 128 = 1) = z := by
    unfold headN
    cases a <;> cases z <;> simp <;> omega
  obtain ⟨q1, q2, q3⟩ := hk
  rw [q1, q2, q3]
  congr 1
  · simp
  · unfold laid
    simp
theorem isPage_laid {f : Frm} (h1 : f.kind.toNat ≤ 63) (h2 : f.data.length ≤ 125) : isPage (laid f) = true := by
  unfold isPage
  rw [guess_laid h1 h2, laid_len f h2, laid_1, ofNat_toNat _ (by omega)]
  simp [h2]
theorem take_laid {f : Frm} (h1 : f.kind.toNat ≤ 63) (h2 : f.data.length ≤ 125) : take (laid f) = (f, 0) := by
  unfold take; rw [if_pos (isPage_laid h1 h2), guess_laid h1 h2]
/-- what was laid is taken -/
theorem take_lay {f : Frm} (h : layE f = 0) : take (lay f).1 = (f, 0) := by
  unfold lay; rw [if_pos h]; exact take_laid (lay_ok h).1 (lay_ok h).2
theorem take_nil : take [] = (zeroF, 90) := rfl
theorem isPage_props {b : Bs} (h : isPage b = true) : b.length = 128 ∧ (b.getD 1 0).toNat ≤ 125 ∧ laid (guess b) = b := by
  unfold isPage at h
  simp only [Bool.and_eq_true, decide_eq_true_eq] at h
  exact ⟨h.1.1, h.1.2, h.2⟩
theorem guess_small (b : Bs) (h : b.length = 128) (h1 : (b.getD 1 0).toNat ≤ 125) : (guess b).kind.toNat ≤ 63 ∧ (guess b).data.length = (b.getD 1 0).toNat := by
  unfold guess
  refine ⟨?_, ?_⟩
  · simp only; rw [ofNat_toNat _ (by omega)]; omega
  · simp only [List.length_take, List.length_drop, h]; omega
/-- what is taken is laid so -/
theorem lay_take {b : Bs} (h : isPage b = true) : lay (take b).1 = (b, 0) := by
  obtain ⟨h1, h2, h3⟩ := isPage_props h
  obtain ⟨g1, g2⟩ := guess_small b h1 h2
  unfold take; rw [if_pos h]
  unfold lay; rw [if_pos (layE_ok g1 (by omega)), h3]
theorem last_laid (f : Frm) (h : f.data.length ≤ 125) : (laid f).getD 127 0 = 90 := by
  show (UInt8.ofNat (headN f) :: UInt8.ofNat f.data.length :: (f.data ++ (List.replicate (125 - f.data.length) 0 ++ [90]))).getD (125 + 1 + 1) 0 = 90
  rw [List.getD_cons_succ, List.getD_cons_succ, List.getD_eq_getElem?_getD, List.getElem?_append_right (by omega), List.getElem?_append_right (by simp)]
  simp
/-- a page is told by its last byte -/
theorem isPage_last {b : Bs} (h : isPage b = true) : b.getD 127 0 = 90 := by
  obtain ⟨h1, h2, h3⟩ := isPage_props h
  obtain ⟨_, g2⟩ := guess_small b h1 h2
  rw [← h3]
  exact last_laid _ (by omega)
theorem torn {b : Bs} (k : Nat) (hk : k < 128) (hb : b.length = 128) : isPage (b.take k ++ (List.replicate 128 255).drop k) = false := by
  cases h : isPage (b.take k ++ (List.replicate 128 255).drop k) with
  | false => rfl
  | true =>
    have := isPage_last h
    rw [List.getD_eq_getElem?_getD, List.getElem?_append_right (by simp; omega)] at this
    simp only [List.length_take, hb, List.getElem?_drop, List.getElem?_replicate] at this
    rw [if_pos (by omega)] at this
    simp at this

/-- the pages of bytes -/
def pagesF (kind : UInt8) : Nat → Bool → Bs → List Bs
  | 0, _, _ => []
  | n + 1, first, b => laid ⟨kind, first, decide (b.length ≤ 125), b.take 125⟩ :: (if b.length ≤ 125 then [] else pagesF kind n false (b.drop 125))
def pages (kind : UInt8) (b : Bs) : List Bs := pagesF kind (b.length / 125 + 1) true b
def splitE (kind : UInt8) (b : Bs) : Nat := if 63 < kind.toNat then 1 else if 8000 < b.length then 4 else 0
def split (kind : UInt8) (b : Bs) : List Bs × Nat := if splitE kind b = 0 then (pages kind b, 0) else ([], splitE kind b)
theorem pagesF_fuel (kind : UInt8) : ∀ (n m : Nat) (first : Bool) (b : Bs), b.length / 125 < n → b.length / 125 < m → pagesF kind n first b = pagesF kind m first b
  | 0, _, _, b, h, _ => by omega
  | _, 0, _, b, _, h => by omega
  | n + 1, m + 1, first, b, h1, h2 => by
    unfold pagesF
    congr 1
    split
    · rfl
    · rename_i hb
      exact pagesF_fuel kind n m false (b.drop 125) (by rw [List.length_drop]; omega) (by rw [List.length_drop]; omega)
/-- what is left to split -/
def rest (kind : UInt8) (first : Bool) (b : Bs) : List Bs := pagesF kind (b.length / 125 + 1) first b
theorem rest_step (kind : UInt8) (first : Bool) (b : Bs) : rest kind first b = laid ⟨kind, first, decide (b.length ≤ 125), b.take 125⟩ :: (if b.length ≤ 125 then [] else rest kind false (b.drop 125)) := by
  unfold rest
  conv => lhs; unfold pagesF
  congr 1
  split
  · rfl
  · exact pagesF_fuel kind _ _ false _ (by rw [List.length_drop]; omega) (by omega)

/-- reading on from page number i (of pages l, all told), what came so far: ok, kind, bytes, pages -/
def joinF : Nat → UInt8 → Bs → List Bs → (UInt8 × Bs × Nat) × Nat
  | _, _, _, [] => ((0, [], 0), 90)
  | i, k, all, p :: l => if 64 ≤ i then ((0, [], 0), 90)
    else if !isPage p || (guess p).first != decide (i = 0) || (decide (0 < i) && (guess p).kind != k) || (!(guess p).last && decide ((guess p).data.length ≠ 125)) then ((0, [], 0), 90)
    else if (guess p).last then (((guess p).kind, all ++ (guess p).data, i + 1), 0)
    else joinF (i + 1) (guess p).kind (all ++ (guess p).data) l
def join (l : List Bs) : (UInt8 × Bs × Nat) × Nat := joinF 0 0 [] l
theorem joinF_zero (i : Nat) (k : UInt8) (all : Bs) (l : List Bs) : (joinF i k all l).2 ≠ 0 → joinF i k all l = ((0, [], 0), 90) := by
  induction l generalizing i k all with
  | nil => intro _; rfl
  | cons p l ih =>
    intro h
    unfold joinF at h ⊢
    split
    · rfl
    · rename_i h1
      rw [if_neg h1] at h
      split
      · rfl
      · rename_i h2
        rw [if_neg h2] at h
        split
        · rename_i h3
          rw [if_pos h3] at h
          exact absurd rfl h
        · rename_i h3
          rw [if_neg h3] at h
          exact ih _ _ _ h
theorem joinF_page (i : Nat) (k : UInt8) (all : Bs) (f : Frm) (l : List Bs) (h1 : f.kind.toNat ≤ 63) (h2 : f.data.length ≤ 125) (hi : i < 64) (hf : f.first = decide (i = 0)) (hk : 0 < i → f.kind = k) (hl : f.last = false → f.data.length = 125) :
    joinF i k all (laid f :: l) = if f.last then ((f.kind, all ++ f.data, i + 1), 0) else joinF (i + 1) f.kind (all ++ f.data) l := by
  rw [joinF, guess_laid h1 h2, isPage_laid h1 h2, if_neg (by omega), if_neg ?_]
  rw [hf]
  simp
  refine ⟨fun h0 => hk h0, fun h => ?_⟩
  exact hl h
/-- what was split is joined, whatever stands behind -/
theorem join_rest (kind : UInt8) (hk : kind.toNat ≤ 63) (behind : List Bs) : ∀ (n : Nat) (i : Nat) (all b : Bs), b.length ≤ 125 * n → b.length + 125 * i ≤ 8000 → i < 64 →
    joinF i kind all (rest kind (decide (i = 0)) b ++ behind) = ((kind, all ++ b, i + (rest kind (decide (i = 0)) b).length), 0) := by
  intro n
  induction n with
  | zero =>
    intro i all b hb _ hi
    have h0 : b = [] := List.eq_nil_of_length_eq_zero (by omega)
    subst h0
    rw [rest_step]
    simp only [List.length_nil, Nat.zero_le, decide_true, if_true, List.cons_append, List.nil_append]
    rw [joinF_page i kind all _ behind hk (by simp) hi rfl (fun _ => rfl) (by simp)]
    simp
  | succ n ih =>
    intro i all b hb hl hi
    rw [rest_step, List.cons_append, joinF_page i kind all _ _ hk (by simp; omega) hi rfl (fun _ => rfl) (by simp; omega)]
    by_cases h : b.length ≤ 125
    · simp [h, List.take_of_length_le h]
    · have hi1 : decide (i + 1 = 0) = false := by simp
      have := ih (i + 1) (all ++ b.take 125) (b.drop 125) (by rw [List.length_drop]; omega) (by rw [List.length_drop]; omega) (by omega)
      rw [hi1] at this
      simp only [h, decide_false, if_false, Bool.false_eq_true]
      rw [this, List.append_assoc, List.take_append_drop, List.length_cons, Nat.add_assoc, Nat.add_comm 1]
theorem join_split (kind : UInt8) (b : Bs) (hk : kind.toNat ≤ 63) (hb : b.length ≤ 8000) (behind : List Bs) : join (pages kind b ++ behind) = ((kind, b, (pages kind b).length), 0) := by
  have := join_rest kind hk behind (b.length / 125 + 1) 0 [] b (by omega) (by omega) (by omega)
  rw [show decide (0 = 0) = true from rfl] at this
  have e : joinF 0 kind [] (rest kind true b ++ behind) = join (pages kind b ++ behind) := by
    show _ = joinF 0 0 [] (rest kind true b ++ behind)
    rw [rest_step, List.cons_append]
    rw [joinF_page 0 kind [] _ _ hk (by simp; omega) (by omega) rfl (by omega) (by simp; omega), joinF_page 0 0 [] _ _ hk (by simp; omega) (by omega) rfl (by omega) (by simp; omega)]
  rw [← e, this]
  simp only [List.nil_append, Nat.zero_add]
  rfl
/-- .. and no beginning of the pages is -/
theorem join_cut (kind : UInt8) (hk : kind.toNat ≤ 63) : ∀ (c : Nat) (i : Nat) (all b : Bs), c < (rest kind (decide (i = 0)) b).length → joinF i kind all ((rest kind (decide (i = 0)) b).take c) = ((0, [], 0), 90) := by
  intro c
  induction c with
  | zero => intro i all b _; rfl
  | succ c ih =>
    intro i all b hc
    rw [rest_step] at hc ⊢
    by_cases h : b.length ≤ 125
    · rw [if_pos h] at hc; simp at hc
    · rw [if_neg h] at hc ⊢
      rw [List.take_succ_cons]
      by_cases hi : i < 64
      · rw [joinF_page i kind all _ _ hk (by simp; omega) hi rfl (fun _ => rfl) (by simp; omega)]
        simp only [h, decide_false, if_false, Bool.false_eq_true]
        have hi1 : decide (i + 1 = 0) = false := by simp
        have := ih (i + 1) (all ++ b.take 125) (b.drop 125) (by rw [hi1]; simpa using hc)
        rw [hi1] at this
        exact this
      · rw [joinF, if_pos (by omega)]
theorem join_begin (kind : UInt8) (b : Bs) (hk : kind.toNat ≤ 63) (c : Nat) (hc : c < (pages kind b).length) : join ((pages kind b).take c) = ((0, [], 0), 90) := by
  have := join_cut kind hk c 0 [] b hc
  rw [show decide (0 = 0) = true from rfl] at this
  cases c with
  | zero => rfl
  | succ c =>
    have e : joinF 0 kind [] ((rest kind true b).take (c + 1)) = join ((pages kind b).take (c + 1)) := by
      show _ = joinF 0 0 [] ((rest kind true b).take (c + 1))
      rw [rest_step, List.take_succ_cons]
      rw [joinF_page 0 kind [] _ _ hk (by simp; omega) (by omega) rfl (by omega) (by simp; omega), joinF_page 0 0 [] _ _ hk (by simp; omega) (by omega) rfl (by omega) (by simp; omega)]
    rw [← e, this]
/-- .. and no end is -/
theorem join_end (kind : UInt8) (b : Bs) (hk : kind.toNat ≤ 63) : join ((pages kind b).drop 1) = ((0, [], 0), 90) := by
  have e : pages kind b = rest kind true b := rfl
  rw [e, rest_step, List.drop_one, List.tail_cons]
  split
  · rfl
  · rw [rest_step]
    unfold join joinF
    rw [if_neg (by omega), guess_laid hk (by simp; omega)]
    simp
theorem rest_len (kind : UInt8) : ∀ (n : Nat) (first : Bool) (b : Bs), b.length ≤ 125 * n → (rest kind first b).length = max 1 ((b.length + 124) / 125) := by
  intro n
  induction n with
  | zero =>
    intro first b hb
    rw [rest_step, if_pos (by omega)]
    simp
    omega
  | succ n ih =>
    intro first b hb
    rw [rest_step]
    by_cases h : b.length ≤ 125
    · rw [if_pos h]; simp; omega
    · rw [if_neg h, List.length_cons, ih false (b.drop 125) (by rw [List.length_drop]; omega), List.length_drop]
      omega
theorem pages_len (kind : UInt8) (b : Bs) : (pages kind b).length = max 1 ((b.length + 124) / 125) := rest_len kind (b.length / 125 + 1) true b (by omega)
/-- page number j -/
theorem rest_at (kind : UInt8) : ∀ (j : Nat) (first : Bool) (b : Bs), j < (rest kind first b).length → (rest kind first b)[j]? = some (laid ⟨kind, first && decide (j = 0), decide (b.length ≤ 125 * (j + 1)), (b.drop (125 * j)).take 125⟩) := by
  intro j
  induction j with
  | zero => intro first b _; rw [rest_step]; simp
  | succ j ih =>
    intro first b hj
    rw [rest_step] at hj ⊢
    by_cases h : b.length ≤ 125
    · rw [if_pos h] at hj; simp at hj
    · rw [if_neg h] at hj ⊢
      rw [List.getElem?_cons_succ, ih false (b.drop 125) (by simpa using hj), List.length_drop, List.drop_drop]
      have e1 : (false && decide (j = 0)) = (first && decide (j + 1 = 0)) := by simp
      have e2 : decide (b.length - 125 ≤ 125 * (j + 1)) = decide (b.length ≤ 125 * (j + 1 + 1)) := by
        rcases Nat.lt_or_ge (125 * (j + 1 + 1)) b.length with h | h
        · rw [decide_eq_false (by omega), decide_eq_false (by omega)]
        · rw [decide_eq_true (by omega), decide_eq_true (by omega)]
      rw [e1, e2, show 125 + 125 * j = 125 * (j + 1) by omega]
theorem pages_at (kind : UInt8) (b : Bs) (j : Nat) (h : j < (pages kind b).length) : (pages kind b)[j]? = some (laid ⟨kind, decide (j = 0), decide (b.length ≤ 125 * (j + 1)), (b.drop (125 * j)).take 125⟩) := by
  have := rest_at kind j true b h
  rw [Bool.true_and] at this
  exact this
end Go.PagM
