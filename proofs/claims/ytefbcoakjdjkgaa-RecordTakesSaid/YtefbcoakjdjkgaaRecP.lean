/- Layer 10: the document's parse finds a note exactly where there is one. -/
import Derived.Test.YtefbcoakjdjkgaaRecM
import Derived.Test.YtefbcoakjdjkgaaCodE
namespace Go.Proofs.Ytefbcoakjdjkgaa
namespace Rec
open Go.RecM
open Cod (RS)
theorem cod_num (l : RecM.Bs) : Cod.num l = RecM.num l := by
  induction l with
  | nil => rfl
  | cons c r ih => rw [Cod.num, RecM.num, ih]
theorem num_lt (l : RecM.Bs) : RecM.num l < 2 ^ (8 * l.length) := by
  induction l with
  | nil => simp [RecM.num]
  | cons c r ih =>
    have e : 2 ^ (8 * (r.length + 1)) = 256 * 2 ^ (8 * r.length) := by rw [Nat.mul_add, Nat.pow_add]; simp [Nat.mul_comm]
    have := c.toNat_lt
    rw [RecM.num, List.length_cons, e]
    omega
theorem le_cons (k n : Nat) : RecM.le n (k + 1) = UInt8.ofNat n :: RecM.le (n / 256) k := by
  induction k with
  | zero => simp [RecM.le]
  | succ k ih =>
    rw [RecM.le, ih, RecM.le, List.cons_append]
    congr 3
    have e : 2 ^ (8 * (k + 1)) = 256 * 2 ^ (8 * k) := by rw [Nat.mul_add, Nat.pow_add]; simp [Nat.mul_comm]
    rw [e, Nat.div_div_eq_div_mul]
theorem le_num (l : RecM.Bs) : RecM.le (RecM.num l) l.length = l := by
  induction l with
  | nil => rfl
  | cons c r ih =>
    have hc := c.toNat_lt
    rw [List.length_cons, le_cons, RecM.num, show (c.toNat + 256 * RecM.num r) / 256 = RecM.num r by omega, ih]
    congr 1
    apply UInt8.toNat_inj.1
    simp
theorem byte_eq (c : UInt8) : UInt8.ofNat c.toNat = c := UInt8.toNat_inj.1 (by simp)

/-- a number is read -/
theorem num_ok {r : RS} {k x : Nat} {l' : RecM.Bs} (hk : k ≤ 8) (h : r.num (k : Int) = (x, ⟨l', 0⟩)) : r.err = 0 ∧ r.l = RecM.le x k ++ l' ∧ x < 2 ^ (8 * k) := by
  obtain ⟨l, e⟩ := r
  unfold RS.num at h
  by_cases he : e = 0
  · subst he
    rw [if_neg (by simp), if_neg (by omega)] at h
    by_cases hs : (l.length : Int) < (k : Int)
    · simp only [hs, if_true, Prod.mk.injEq, RS.mk.injEq] at h
      exact absurd h.2.2 (by decide)
    · simp only [hs, if_false, Prod.mk.injEq, RS.mk.injEq, Int.toNat_natCast, and_true] at h
      obtain ⟨rfl, rfl⟩ := h
      have hl : (l.take k).length = k := by rw [List.length_take]; omega
      refine ⟨rfl, ?_, ?_⟩
      · rw [cod_num]
        have := le_num (l.take k)
        rw [hl] at this
        rw [this, List.take_append_drop]
      · rw [cod_num]
        have := num_lt (l.take k)
        rw [hl] at this
        exact this
  · rw [if_pos (by exact he)] at h
    simp only [Prod.mk.injEq, RS.mk.injEq] at h
    exact absurd h.2.2 he
theorem raw_ok {r : RS} {k : Nat} {x l' : RecM.Bs} (h : r.raw (k : Int) = (x, ⟨l', 0⟩)) : r.err = 0 ∧ r.l = x ++ l' ∧ x.length = k := by
  obtain ⟨l, e⟩ := r
  unfold RS.raw at h
  by_cases he : e = 0
  · subst he
    rw [if_neg (by simp), if_neg (by omega)] at h
    by_cases hs : (l.length : Int) < (k : Int)
    · simp only [hs, if_true, Prod.mk.injEq, RS.mk.injEq] at h
      exact absurd h.2.2 (by decide)
    · simp only [hs, if_false, Prod.mk.injEq, RS.mk.injEq, Int.toNat_natCast, and_true] at h
      obtain ⟨rfl, rfl⟩ := h
      exact ⟨rfl, (List.take_append_drop _ _).symm, by rw [List.length_take]; omega⟩
  · rw [if_pos (by exact he)] at h
    simp only [Prod.mk.injEq, RS.mk.injEq] at h
    exact absurd h.2.2 he
theorem blob_ok {r : RS} {x l' : RecM.Bs} (h : r.blob 300 = (x, ⟨l', 0⟩)) : r.err = 0 ∧ r.l = RecM.le x.length 2 ++ (x ++ l') ∧ x.length ≤ 300 := by
  obtain ⟨l, e⟩ := r
  unfold RS.blob at h
  by_cases he : e = 0
  · subst he
    rw [if_neg (by simp)] at h
    simp only at h
    by_cases h1 : (Cod.blobSz l 300).2 ≠ 0
    · rw [if_pos h1] at h
      simp only [Prod.mk.injEq, RS.mk.injEq] at h
      exact absurd h.2.2 h1
    · rw [if_neg h1] at h
      simp only [Prod.mk.injEq, RS.mk.injEq, and_true] at h
      obtain ⟨rfl, rfl⟩ := h
      unfold Cod.blobSz at h1 ⊢
      by_cases a1 : l.length < 2
      · rw [if_pos a1] at h1; exact absurd (by decide) h1
      rw [if_neg a1] at h1 ⊢
      by_cases a2 : max 300 0 < (Cod.num (l.take 2) : Int)
      · rw [if_pos a2] at h1; exact absurd (by decide) h1
      rw [if_neg a2] at h1 ⊢
      by_cases a3 : l.length - 2 < Cod.num (l.take 2)
      · rw [if_pos a3] at h1; exact absurd (by decide) h1
      rw [if_neg a3] at h1 ⊢
      simp only
      have hl : (l.take 2).length = 2 := by rw [List.length_take]; omega
      have hxl : ((l.drop 2).take (Cod.num (l.take 2))).length = Cod.num (l.take 2) := by rw [List.length_take, List.length_drop]; omega
      refine ⟨trivial, ?_, by rw [hxl]; omega⟩
      rw [hxl, List.take_append_drop, cod_num]
      have := le_num (l.take 2)
      rw [hl] at this
      rw [this, List.take_append_drop]
  · rw [if_pos (by exact he)] at h
    simp only [Prod.mk.injEq, RS.mk.injEq] at h
    exact absurd h.2.2 he
theorem num_run (x k : Nat) (l : RecM.Bs) (hk : k ≤ 8) (hx : x < 2 ^ (8 * k)) : RS.num ⟨RecM.le x k ++ l, 0⟩ (k : Int) = (x, ⟨l, 0⟩) := by
  unfold RS.num
  rw [if_neg (by simp), if_neg (by omega), if_neg (by simp [RecM.le_len]; omega)]
  simp only [Int.toNat_natCast]
  rw [cod_num, num_take x k l hx, drop_le]
theorem raw_run (s l : RecM.Bs) (k : Nat) (hk : s.length = k) : RS.raw ⟨s ++ l, 0⟩ (k : Int) = (s, ⟨l, 0⟩) := by
  subst hk
  unfold RS.raw
  rw [if_neg (by simp), if_neg (by omega), if_neg (by rw [List.length_append]; omega)]
  simp
theorem blob_run (d l : RecM.Bs) (hd : d.length ≤ 300) : RS.blob ⟨RecM.le d.length 2 ++ (d ++ l), 0⟩ 300 = (d, ⟨l, 0⟩) := by
  have hn : Cod.num ((RecM.le d.length 2 ++ (d ++ l)).take 2) = d.length := by rw [cod_num]; exact num_take _ 2 _ (by omega)
  have hs : Cod.blobSz (RecM.le d.length 2 ++ (d ++ l)) 300 = (d.length, 0) := by
    unfold Cod.blobSz
    rw [hn, if_neg (by rw [List.length_append, RecM.le_len]; omega), if_neg (by omega), if_neg (by rw [List.length_append, RecM.le_len, List.length_append]; omega)]
  unfold RS.blob
  rw [if_neg (by simp)]
  simp only [hs]
  rw [if_neg (by simp), drop_le]
  simp
def pad (s : RecM.Bs) : RecM.Bs := s ++ List.replicate (32 - s.length) 0
/-- what the document's parse makes of bytes, and what is left -/
def parse (b : RecM.Bs) : Nte × RS :=
  let a := RS.num ⟨b, 0⟩ 1
  let c := UInt8.ofNat a.1
  let d := if c = 1 ∨ c = 2 then RS.num a.2 4 else (0, a.2)
  let s := if c = 4 then (0, d.2) else RS.num d.2 8
  if c = 1 ∨ c = 4 then
    let x := RS.raw s.2 32
    let k := RS.num x.2 4
    let y := RS.blob k.2 300
    (⟨c, d.1, s.1, pad x.1, k.1, y.1⟩, y.2)
  else (⟨c, d.1, s.1, zsum, 0, []⟩, s.2)
theorem fin_zero {r : RS} (h : r.fin = 0) : r = ⟨[], 0⟩ := by
  obtain ⟨l, e⟩ := r
  unfold RS.fin at h
  by_cases h1 : e = 0 ∧ l ≠ []
  · rw [if_pos h1] at h; exact absurd h (by decide)
  · rw [if_neg h1] at h
    simp only at h
    subst h
    have : l = [] := by
      cases l with
      | nil => rfl
      | cons a l => exact absurd ⟨rfl, by simp⟩ h1
    rw [this]
theorem parse_kind (b : RecM.Bs) : (parse b).1.kind = UInt8.ofNat (RS.num ⟨b, 0⟩ 1).1 := by
  unfold parse
  simp only
  split <;> rfl
theorem parse_1 {b : RecM.Bs} (h : UInt8.ofNat (RS.num ⟨b, 0⟩ 1).1 = 1) : parse b = (⟨1, (RS.num (RS.num ⟨b, 0⟩ 1).2 4).1, (RS.num (RS.num (RS.num ⟨b, 0⟩ 1).2 4).2 8).1, pad (RS.raw (RS.num (RS.num (RS.num ⟨b, 0⟩ 1).2 4).2 8).2 32).1, (RS.num (RS.raw (RS.num (RS.num (RS.num ⟨b, 0⟩ 1).2 4).2 8).2 32).2 4).1, (RS.blob (RS.num (RS.raw (RS.num (RS.num (RS.num ⟨b, 0⟩ 1).2 4).2 8).2 32).2 4).2 300).1⟩, (RS.blob (RS.num (RS.raw (RS.num (RS.num (RS.num ⟨b, 0⟩ 1).2 4).2 8).2 32).2 4).2 300).2) := by
  unfold parse
  have n12 : ¬ ((1 : UInt8) = 2) := by decide
  have n14 : ¬ ((1 : UInt8) = 4) := by decide
  have n21 : ¬ ((2 : UInt8) = 1) := by decide
  have n24 : ¬ ((2 : UInt8) = 4) := by decide
  have n31 : ¬ ((3 : UInt8) = 1) := by decide
  have n32 : ¬ ((3 : UInt8) = 2) := by decide
  have n34 : ¬ ((3 : UInt8) = 4) := by decide
  have n41 : ¬ ((4 : UInt8) = 1) := by decide
  have n42 : ¬ ((4 : UInt8) = 2) := by decide
  simp only [h, n12, n14, n21, n24, n31, n32, n34, n41, n42, true_or, or_true, or_self, or_false, if_true, if_false]
theorem parse_2 {b : RecM.Bs} (h : UInt8.ofNat (RS.num ⟨b, 0⟩ 1).1 = 2) : parse b = (⟨2, (RS.num (RS.num ⟨b, 0⟩ 1).2 4).1, (RS.num (RS.num (RS.num ⟨b, 0⟩ 1).2 4).2 8).1, zsum, 0, []⟩, (RS.num (RS.num (RS.num ⟨b, 0⟩ 1).2 4).2 8).2) := by
  unfold parse
  have n12 : ¬ ((1 : UInt8) = 2) := by decide
  have n14 : ¬ ((1 : UInt8) = 4) := by decide
  have n21 : ¬ ((2 : UInt8) = 1) := by decide
  have n24 : ¬ ((2 : UInt8) = 4) := by decide
  have n31 : ¬ ((3 : UInt8) = 1) := by decide
  have n32 : ¬ ((3 : UInt8) = 2) := by decide
  have n34 : ¬ ((3 : UInt8) = 4) := by decide
  have n41 : ¬ ((4 : UInt8) = 1) := by decide
  have n42 : ¬ ((4 : UInt8) = 2) := by decide
  simp only [h, n12, n14, n21, n24, n31, n32, n34, n41, n42, true_or, or_true, or_self, or_false, if_true, if_false]
theorem parse_3 {b : RecM.Bs} (h : UInt8.ofNat (RS.num ⟨b, 0⟩ 1).1 = 3) : parse b = (⟨3, 0, (RS.num (RS.num ⟨b, 0⟩ 1).2 8).1, zsum, 0, []⟩, (RS.num (RS.num ⟨b, 0⟩ 1).2 8).2) := by
  unfold parse
  have n12 : ¬ ((1 : UInt8) = 2) := by decide
  have n14 : ¬ ((1 : UInt8) = 4) := by decide
  have n21 : ¬ ((2 : UInt8) = 1) := by decide
  have n24 : ¬ ((2 : UInt8) = 4) := by decide
  have n31 : ¬ ((3 : UInt8) = 1) := by decide
  have n32 : ¬ ((3 : UInt8) = 2) := by decide
  have n34 : ¬ ((3 : UInt8) = 4) := by decide
  have n41 : ¬ ((4 : UInt8) = 1) := by decide
  have n42 : ¬ ((4 : UInt8) = 2) := by decide
  simp only [h, n12, n14, n21, n24, n31, n32, n34, n41, n42, true_or, or_true, or_self, or_false, if_true, if_false]
theorem parse_4 {b : RecM.Bs} (h : UInt8.ofNat (RS.num ⟨b, 0⟩ 1).1 = 4) : parse b = (⟨4, 0, 0, pad (RS.raw (RS.num ⟨b, 0⟩ 1).2 32).1, (RS.num (RS.raw (RS.num ⟨b, 0⟩ 1).2 32).2 4).1, (RS.blob (RS.num (RS.raw (RS.num ⟨b, 0⟩ 1).2 32).2 4).2 300).1⟩, (RS.blob (RS.num (RS.raw (RS.num ⟨b, 0⟩ 1).2 32).2 4).2 300).2) := by
  unfold parse
  have n12 : ¬ ((1 : UInt8) = 2) := by decide
  have n14 : ¬ ((1 : UInt8) = 4) := by decide
  have n21 : ¬ ((2 : UInt8) = 1) := by decide
  have n24 : ¬ ((2 : UInt8) = 4) := by decide
  have n31 : ¬ ((3 : UInt8) = 1) := by decide
  have n32 : ¬ ((3 : UInt8) = 2) := by decide
  have n34 : ¬ ((3 : UInt8) = 4) := by decide
  have n41 : ¬ ((4 : UInt8) = 1) := by decide
  have n42 : ¬ ((4 : UInt8) = 2) := by decide
  simp only [h, n12, n14, n21, n24, n31, n32, n34, n41, n42, true_or, or_true, or_self, or_false, if_true, if_false]
theorem pad_id {s : RecM.Bs} (h : s.length = 32) : pad s = s := by unfold pad; rw [h]; simp
theorem one_le (c : UInt8) (l : RecM.Bs) : c :: l = RecM.le c.toNat 1 ++ l := by
  simp [RecM.le]
theorem zsum_len : zsum.length = 32 := by simp [zsum]
/-- the first byte -/
theorem first_a {b : RecM.Bs} {l : RecM.Bs} {e : Int} (he : e = 0) {x : Nat} (h : RS.num ⟨b, 0⟩ 1 = (x, ⟨l, e⟩)) : b = UInt8.ofNat x :: l := by
  subst he
  obtain ⟨_, h2, h3⟩ := num_ok (k := 1) (by omega) h
  rw [one_le, show (UInt8.ofNat x).toNat = x by simp; omega]
  exact h2
theorem pair_eta {α β : Type} (p : α × β) {x : β} (h : p.2 = x) : p = (p.1, x) := by rw [← h]
/-- what was parsed to the end, and is right, is the note whose bytes these are -/
theorem parse_a {b : RecM.Bs} (hf : (parse b).2.fin = 0) (hr : right (parse b).1 = true) : Fits (parse b).1 ∧ laid (parse b).1 = b := by
  have h0 := fin_zero hf
  have hk := right_kind hr
  rw [parse_kind] at hk
  clear hf
  obtain ⟨a, ha⟩ : ∃ a, a = RS.num ⟨b, 0⟩ 1 := ⟨_, rfl⟩
  rw [← ha] at hk
  obtain ⟨a1, al, ae⟩ := a
  have ha' := ha.symm
  rcases hk with k | k | k | k
  · rw [parse_1 (by rw [ha']; exact k)] at h0 ⊢
    rw [ha'] at h0 ⊢
    simp only at h0 k ⊢
    obtain ⟨d, hd⟩ : ∃ d, d = RS.num ⟨al, ae⟩ 4 := ⟨_, rfl⟩
    rw [← hd] at h0 ⊢
    obtain ⟨s, hs⟩ : ∃ s, s = RS.num d.2 8 := ⟨_, rfl⟩
    rw [← hs] at h0 ⊢
    obtain ⟨x, hx⟩ : ∃ x, x = RS.raw s.2 32 := ⟨_, rfl⟩
    rw [← hx] at h0 ⊢
    obtain ⟨n, hn⟩ : ∃ n, n = RS.num x.2 4 := ⟨_, rfl⟩
    rw [← hn] at h0 ⊢
    obtain ⟨y1, hy1⟩ : ∃ y, y = (RS.blob n.2 300).1 := ⟨_, rfl⟩
    have hy : RS.blob n.2 300 = (y1, ⟨[], 0⟩) := by rw [hy1]; exact pair_eta _ h0
    rw [← hy1]
    obtain ⟨n1, nl, ne⟩ := n
    obtain ⟨q1, q2, q3⟩ := blob_ok hy
    simp only at q1 q2 ⊢
    subst q1
    obtain ⟨x1, xl, xe⟩ := x
    obtain ⟨p1, p2, p3⟩ := num_ok (k := 4) (by omega) hn.symm
    simp only at p1 p2 ⊢
    subst p1
    obtain ⟨s1, sl, se⟩ := s
    obtain ⟨r1, r2, r3⟩ := raw_ok (k := 32) hx.symm
    simp only at r1 r2 ⊢
    subst r1
    obtain ⟨d1, dl, de⟩ := d
    obtain ⟨t1, t2, t3⟩ := num_ok (k := 8) (by omega) hs.symm
    simp only at t1 t2 ⊢
    subst t1
    obtain ⟨u1, u2, u3⟩ := num_ok (k := 4) (by omega) hd.symm
    simp only at u1 u2 ⊢
    subst u1
    have hb := first_a rfl ha'
    rw [pad_id r3]
    refine ⟨⟨by simpa using u3, by simpa using t3, r3, by simpa using p3⟩, ?_⟩
    rw [hb, k, u2, t2, r2, p2, q2]
    simp [laid, RecM.tail]
  · rw [parse_2 (by rw [ha']; exact k)] at h0 ⊢
    rw [ha'] at h0 ⊢
    simp only at h0 k ⊢
    obtain ⟨d, hd⟩ : ∃ d, d = RS.num ⟨al, ae⟩ 4 := ⟨_, rfl⟩
    rw [← hd] at h0 ⊢
    obtain ⟨y1, hy1⟩ : ∃ y, y = (RS.num d.2 8).1 := ⟨_, rfl⟩
    have hy : RS.num d.2 8 = (y1, ⟨[], 0⟩) := by rw [hy1]; exact pair_eta _ h0
    rw [← hy1]
    obtain ⟨d1, dl, de⟩ := d
    obtain ⟨t1, t2, t3⟩ := num_ok (k := 8) (by omega) hy
    simp only at t1 t2 ⊢
    subst t1
    obtain ⟨u1, u2, u3⟩ := num_ok (k := 4) (by omega) hd.symm
    simp only at u1 u2 ⊢
    subst u1
    have hb := first_a rfl ha'
    refine ⟨⟨by simpa using u3, by simpa using t3, zsum_len, Nat.zero_lt_succ _⟩, ?_⟩
    rw [hb, k, u2, t2]
    simp [laid]
  · rw [parse_3 (by rw [ha']; exact k)] at h0 ⊢
    rw [ha'] at h0 ⊢
    simp only at h0 k ⊢
    obtain ⟨y1, hy1⟩ : ∃ y, y = (RS.num ⟨al, ae⟩ 8).1 := ⟨_, rfl⟩
    have hy : RS.num ⟨al, ae⟩ 8 = (y1, ⟨[], 0⟩) := by rw [hy1]; exact pair_eta _ h0
    rw [← hy1]
    obtain ⟨t1, t2, t3⟩ := num_ok (k := 8) (by omega) hy
    simp only at t1 t2 ⊢
    subst t1
    have hb := first_a rfl ha'
    refine ⟨⟨Nat.zero_lt_succ _, by simpa using t3, zsum_len, Nat.zero_lt_succ _⟩, ?_⟩
    rw [hb, k, t2]
    simp [laid]
  · rw [parse_4 (by rw [ha']; exact k)] at h0 ⊢
    rw [ha'] at h0 ⊢
    simp only at h0 k ⊢
    obtain ⟨x, hx⟩ : ∃ x, x = RS.raw ⟨al, ae⟩ 32 := ⟨_, rfl⟩
    rw [← hx] at h0 ⊢
    obtain ⟨n, hn⟩ : ∃ n, n = RS.num x.2 4 := ⟨_, rfl⟩
    rw [← hn] at h0 ⊢
    obtain ⟨y1, hy1⟩ : ∃ y, y = (RS.blob n.2 300).1 := ⟨_, rfl⟩
    have hy : RS.blob n.2 300 = (y1, ⟨[], 0⟩) := by rw [hy1]; exact pair_eta _ h0
    rw [← hy1]
    obtain ⟨n1, nl, ne⟩ := n
    obtain ⟨q1, q2, q3⟩ := blob_ok hy
    simp only at q1 q2 ⊢
    subst q1
    obtain ⟨x1, xl, xe⟩ := x
    obtain ⟨p1, p2, p3⟩ := num_ok (k := 4) (by omega) hn.symm
    simp only at p1 p2 ⊢
    subst p1
    obtain ⟨r1, r2, r3⟩ := raw_ok (k := 32) hx.symm
    simp only at r1 r2 ⊢
    subst r1
    have hb := first_a rfl ha'
    rw [pad_id r3]
    refine ⟨⟨Nat.zero_lt_succ _, Nat.zero_lt_succ _, r3, by simpa using p3⟩, ?_⟩
    rw [hb, k, r2, p2, q2]
    simp [laid, RecM.tail]
/-- a note's bytes are parsed as the note, to the end -/
theorem parse_b {n : Nte} (f : Fits n) (hr : right n = true) : parse (laid n) = (n, ⟨[], 0⟩) := by
  have hk := right_kind hr
  have hd := right_data hr
  have b1 := f.addr
  have b2 := f.seq
  have b3 := f.kn
  have hfst : ∀ l, RS.num ⟨n.kind :: l, 0⟩ 1 = (n.kind.toNat, ⟨l, 0⟩) := by
    intro l
    have := num_run n.kind.toNat 1 l (by omega) (by have := n.kind.toNat_lt; omega)
    rw [← one_le] at this
    exact this
  obtain ⟨c, ad, sq, su, kn, da⟩ := n
  simp only at *
  rcases hk with k | k | k | k
  all_goals subst k
  · have e : laid ⟨1, ad, sq, su, kn, da⟩ = 1 :: (RecM.le ad 4 ++ (RecM.le sq 8 ++ (su ++ (RecM.le kn 4 ++ (RecM.le da.length 2 ++ (da ++ [])))))) := by simp [laid, RecM.tail]
    rw [e]
    have h1 := hfst (RecM.le ad 4 ++ (RecM.le sq 8 ++ (su ++ (RecM.le kn 4 ++ (RecM.le da.length 2 ++ (da ++ []))))))
    rw [parse_1 (by rw [h1]; rfl), h1]
    simp only [num_run ad 4 _ (by omega) (by omega), num_run sq 8 _ (by omega) (by omega), raw_run su _ 32 f.sum, num_run kn 4 _ (by omega) (by omega), blob_run da _ hd, pad_id f.sum, show (4 : Int) = ((4 : Nat) : Int) from rfl, show (8 : Int) = ((8 : Nat) : Int) from rfl, show (32 : Int) = ((32 : Nat) : Int) from rfl]
  · obtain ⟨z1, z2, z3⟩ := right_2 hr rfl
    simp only at z1 z2 z3
    subst z1 z2 z3
    have e : laid ⟨2, ad, sq, zsum, 0, []⟩ = 2 :: (RecM.le ad 4 ++ (RecM.le sq 8 ++ [])) := by simp [laid]
    rw [e]
    have h1 := hfst (RecM.le ad 4 ++ (RecM.le sq 8 ++ []))
    rw [parse_2 (by rw [h1]; rfl), h1]
    simp only [num_run ad 4 _ (by omega) (by omega), num_run sq 8 _ (by omega) (by omega), show (4 : Int) = ((4 : Nat) : Int) from rfl, show (8 : Int) = ((8 : Nat) : Int) from rfl]
  · obtain ⟨z0, z1, z2, z3⟩ := right_3 hr rfl
    simp only at z0 z1 z2 z3
    subst z0 z1 z2 z3
    have e : laid ⟨3, 0, sq, zsum, 0, []⟩ = 3 :: (RecM.le sq 8 ++ []) := by simp [laid]
    rw [e]
    have h1 := hfst (RecM.le sq 8 ++ [])
    rw [parse_3 (by rw [h1]; rfl), h1]
    simp only [num_run sq 8 _ (by omega) (by omega), show (8 : Int) = ((8 : Nat) : Int) from rfl]
  · obtain ⟨z0, z1, z2⟩ := right_4 hr rfl
    simp only at z0 z1 z2
    subst z0 z1
    have e : laid ⟨4, 0, 0, su, kn, da⟩ = 4 :: (su ++ (RecM.le kn 4 ++ (RecM.le da.length 2 ++ (da ++ [])))) := by simp [laid, RecM.tail]
    rw [e]
    have h1 := hfst (su ++ (RecM.le kn 4 ++ (RecM.le da.length 2 ++ (da ++ []))))
    rw [parse_4 (by rw [h1]; rfl), h1]
    simp only [raw_run su _ 32 f.sum, num_run kn 4 _ (by omega) (by omega), blob_run da _ hd, pad_id f.sum, show (4 : Int) = ((4 : Nat) : Int) from rfl, show (32 : Int) = ((32 : Nat) : Int) from rfl]
theorem take_parse (b : RecM.Bs) : RecM.take b = if (parse b).2.fin = 0 ∧ right (parse b).1 = true then ((parse b).1, 0) else (zeroN, 100) := by
  by_cases h : IsNote b
  · obtain ⟨n, f, hr, rfl⟩ := h
    have hp := parse_b f hr
    rw [take_laid f hr, hp, if_pos ⟨by unfold RS.fin; simp, hr⟩]
  · rw [take_none h, if_neg]
    rintro ⟨h1, h2⟩
    obtain ⟨f, e⟩ := parse_a h1 h2
    exact h ⟨_, f, h2, e⟩
end Rec
end Go.Proofs.Ytefbcoakjdjkgaa
