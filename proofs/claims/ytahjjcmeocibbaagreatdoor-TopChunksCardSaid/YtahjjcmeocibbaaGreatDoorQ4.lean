/- Merged: RecP StrS RecR RecTb RecRb RecQ Ado LogQ LawLog LawLogA FlaK FlbM FlbG Mny LaxG LaxH Slo LawLogE LawLogG TopC MatR LzR LzP LzT LzV LzU LzK LzL -/
import Derived.Deep.MidRow
import Derived.Laws.StructEq
import Derived.Laws.Rows
import Derived.Great.Walk
import Derived.Lib.Hide
import Derived.WalkLawsBesides
import Derived.Maps.Own
import Derived.Maps.Views
import Derived.WideKeyArr
import Derived.Carry
import Derived.Laws.BitsAllLaws
import Derived.Lib.AppendZerosOnto
import Derived.Laws.CopyRow
import Derived.Deep.RegionLaw
import Derived.RangeFuncNested
import Derived.RangeFuncBound
import Derived.RangeFuncCalls
import Derived.RangeFuncLeaves
import Derived.RangeFuncBox
import Derived.Shelf.Abstract
import Derived.Shelf.RegionOpen
import Derived.WalkKit
import Derived.OwnWalkIn
import Derived.TacticsInMore
import Derived.LoopNIn
import Derived.LoopIn
import Derived.Test.YtahjjcmeocibbaaGreatDoorQ1
import Derived.Test.YtahjjcmeocibbaaGreatDoorQ2
import Derived.Test.YtahjjcmeocibbaaGreatDoorQ3
set_option linter.unusedVariables false
section
namespace Go.Proofs.YtahjjcmeocibbaaGreatDoor
namespace Rec
open Go.RecM
open Cod (RS)
theorem cod_num (l : RecM.Bs) : Cod.num l = RecM.num l := by
 induction l with
 | nil => rfl
 | cons c r ih => rw [Cod.num, RecM.num, ih]
theorem num_lt (l : RecM.Bs) : RecM.num l < 2 ^ (8 * l.length) := by
 induction l with
 | nil => simp [RecM.num]
 | cons c r ih =>
  have e : 2 ^ (8 * (r.length + 1)) = 256 * 2 ^ (8 * r.length) := by rw [Nat.mul_add, Nat.pow_add]; simp [Nat.mul_comm]
  have := c.toNat_lt
  rw [RecM.num, List.length_cons, e]
  omega
theorem le_cons (k n : Nat) : RecM.le n (k + 1) = UInt8.ofNat n :: RecM.le (n / 256) k := by
 induction k with
 | zero => simp [RecM.le]
 | succ k ih =>
  rw [RecM.le, ih, RecM.le, List.cons_append]
  congr 3
  have e : 2 ^ (8 * (k + 1)) = 256 * 2 ^ (8 * k) := by rw [Nat.mul_add, Nat.pow_add]; simp [Nat.mul_comm]
  rw [e, Nat.div_div_eq_div_mul]
theorem le_num (l : RecM.Bs) : RecM.le (RecM.num l) l.length = l := by
 induction l with
 | nil => rfl
 | cons c r ih =>
  have hc := c.toNat_lt
  rw [List.length_cons, le_cons, RecM.num, show (c.toNat + 256 * RecM.num r) / 256 = RecM.num r by omega, ih]
  congr 1
  apply UInt8.toNat_inj.1
  simp
theorem num_ok {r : RS} {k x : Nat} {l' : RecM.Bs} (hk : k <= 8) (h : r.num (k : Int) = (x, ⟨l', 0⟩)) : r.err = 0 /\ r.l = RecM.le x k ++ l' /\ x < 2 ^ (8 * k) := by
 obtain ⟨l, e⟩ := r
 unfold RS.num at h
 by_cases he : e = 0
 · subst he
   rw [if_neg (by simp), if_neg (by omega)] at h
   by_cases hs : (l.length : Int) < (k : Int)
   · simp only [hs, if_true, Prod.mk.injEq, RS.mk.injEq] at h
     exact absurd h.2.2 (by decide)
   · simp only [hs, if_false, Prod.mk.injEq, RS.mk.injEq, Int.toNat_natCast, and_true] at h
     obtain ⟨rfl, rfl⟩ := h
     have hl : (l.take k).length = k := by rw [List.length_take]; omega
     refine ⟨rfl, ?_, ?_⟩
     · rw [cod_num]
       have := le_num (l.take k)
       rw [hl] at this
       rw [this, List.take_append_drop]
     · rw [cod_num]
       have := num_lt (l.take k)
       rw [hl] at this
       exact this
 · rw [if_pos (by exact he)] at h
   simp only [Prod.mk.injEq, RS.mk.injEq] at h
   exact absurd h.2.2 he
theorem raw_ok {r : RS} {k : Nat} {x l' : RecM.Bs} (h : r.raw (k : Int) = (x, ⟨l', 0⟩)) : r.err = 0 /\ r.l = x ++ l' /\ x.length = k := by
 obtain ⟨l, e⟩ := r
 unfold RS.raw at h
 by_cases he : e = 0
 · subst he
   rw [if_neg (by simp), if_neg (by omega)] at h
   by_cases hs : (l.length : Int) < (k : Int)
   · simp only [hs, if_true, Prod.mk.injEq, RS.mk.injEq] at h
     exact absurd h.2.2 (by decide)
   · simp only [hs, if_false, Prod.mk.injEq, RS.mk.injEq, Int.toNat_natCast, and_true] at h
     obtain ⟨rfl, rfl⟩ := h
     exact ⟨rfl, (List.take_append_drop _ _).symm, by rw [List.length_take]; omega⟩
 · rw [if_pos (by exact he)] at h
   simp only [Prod.mk.injEq, RS.mk.injEq] at h
   exact absurd h.2.2 he
theorem blob_ok {r : RS} {x l' : RecM.Bs} (h : r.blob 300 = (x, ⟨l', 0⟩)) : r.err = 0 /\ r.l = RecM.le x.length 2 ++ (x ++ l') /\ x.length <= 300 := by
 obtain ⟨l, e⟩ := r
 unfold RS.blob at h
 by_cases he : e = 0
 · subst he
   rw [if_neg (by simp)] at h
   simp only at h
   by_cases h1 : (Cod.blobSz l 300).2 ≠ 0
   · rw [if_pos h1] at h
     simp only [Prod.mk.injEq, RS.mk.injEq] at h
     exact absurd h.2.2 h1
   · rw [if_neg h1] at h
     simp only [Prod.mk.injEq, RS.mk.injEq, and_true] at h
     obtain ⟨rfl, rfl⟩ := h
     unfold Cod.blobSz at h1 ⊢
     by_cases a1 : l.length < 2
     · rw [if_pos a1] at h1; exact absurd (by decide) h1
     rw [if_neg a1] at h1 ⊢
     by_cases a2 : max 300 0 < (Cod.num (l.take 2) : Int)
     · rw [if_pos a2] at h1; exact absurd (by decide) h1
     rw [if_neg a2] at h1 ⊢
     by_cases a3 : l.length - 2 < Cod.num (l.take 2)
     · rw [if_pos a3] at h1; exact absurd (by decide) h1
     rw [if_neg a3] at h1 ⊢
     simp only
     have hl : (l.take 2).length = 2 := by rw [List.length_take]; omega
     have hxl : ((l.drop 2).take (Cod.num (l.take 2))).length = Cod.num (l.take 2) := by rw [List.length_take, List.length_drop]; omega
     refine ⟨trivial, ?_, by rw [hxl]; omega⟩
     rw [hxl, List.take_append_drop, cod_num]
     have := le_num (l.take 2)
     rw [hl] at this
     rw [this, List.take_append_drop]
 · rw [if_pos (by exact he)] at h
   simp only [Prod.mk.injEq, RS.mk.injEq] at h
   exact absurd h.2.2 he
theorem num_run (x k : Nat) (l : RecM.Bs) (hk : k <= 8) (hx : x < 2 ^ (8 * k)) : RS.num ⟨RecM.le x k ++ l, 0⟩ (k : Int) = (x, ⟨l, 0⟩) := by
 unfold RS.num
 rw [if_neg (by simp), if_neg (by omega), if_neg (by simp [RecM.le_len]; omega)]
 simp only [Int.toNat_natCast]
 rw [cod_num, num_take x k l hx, drop_le]
theorem raw_run (s l : RecM.Bs) (k : Nat) (hk : s.length = k) : RS.raw ⟨s ++ l, 0⟩ (k : Int) = (s, ⟨l, 0⟩) := by
 subst hk
 unfold RS.raw
 rw [if_neg (by simp), if_neg (by omega), if_neg (by rw [List.length_append]; omega)]
 simp
theorem blob_run (d l : RecM.Bs) (hd : d.length <= 300) : RS.blob ⟨RecM.le d.length 2 ++ (d ++ l), 0⟩ 300 = (d, ⟨l, 0⟩) := by
 have hn : Cod.num ((RecM.le d.length 2 ++ (d ++ l)).take 2) = d.length := by rw [cod_num]; exact num_take _ 2 _ (by omega)
 have hs : Cod.blobSz (RecM.le d.length 2 ++ (d ++ l)) 300 = (d.length, 0) := by
  unfold Cod.blobSz
  rw [hn, if_neg (by rw [List.length_append, RecM.le_len]; omega), if_neg (by omega), if_neg (by rw [List.length_append, RecM.le_len, List.length_append]; omega)]
 unfold RS.blob
 rw [if_neg (by simp)]
 simp only [hs]
 rw [if_neg (by simp), drop_le]
 simp
def pad (s : RecM.Bs) : RecM.Bs := s ++ List.replicate (32 - s.length) 0
def parse (b : RecM.Bs) : Nte × RS :=
 let a := RS.num ⟨b, 0⟩ 1
 let c := UInt8.ofNat a.1
 let d := if c = 1 \/ c = 2 then RS.num a.2 4 else (0, a.2)
 let s := if c = 4 then (0, d.2) else RS.num d.2 8
 if c = 1 \/ c = 4 then
  let x := RS.raw s.2 32
  let k := RS.num x.2 4
  let y := RS.blob k.2 300
  (⟨c, d.1, s.1, pad x.1, k.1, y.1⟩, y.2)
 else (⟨c, d.1, s.1, zsum, 0, []⟩, s.2)
theorem fin_zero {r : RS} (h : r.fin = 0) : r = ⟨[], 0⟩ := by
 obtain ⟨l, e⟩ := r
 unfold RS.fin at h
 by_cases h1 : e = 0 /\ l ≠ []
 · rw [if_pos h1] at h; exact absurd h (by decide)
 · rw [if_neg h1] at h
   simp only at h
   subst h
   have : l = [] := by
    cases l with
    | nil => rfl
    | cons a l => exact absurd ⟨rfl, by simp⟩ h1
   rw [this]
theorem parse_kind (b : RecM.Bs) : (parse b).1.kind = UInt8.ofNat (RS.num ⟨b, 0⟩ 1).1 := by
 unfold parse
 simp only
 split <;> rfl
theorem parse_1 {b : RecM.Bs} (h : UInt8.ofNat (RS.num ⟨b, 0⟩ 1).1 = 1) : parse b = (⟨1, (RS.num (RS.num ⟨b, 0⟩ 1).2 4).1, (RS.num (RS.num (RS.num ⟨b, 0⟩ 1).2 4).2 8).1, pad (RS.raw (RS.num (RS.num (RS.num ⟨b, 0⟩ 1).2 4).2 8).2 32).1, (RS.num (RS.raw (RS.num (RS.num (RS.num ⟨b, 0⟩ 1).2 4).2 8).2 32).2 4).1, (RS.blob (RS.num (RS.raw (RS.num (RS.num (RS.num ⟨b, 0⟩ 1).2 4).2 8).2 32).2 4).2 300).1⟩, (RS.blob (RS.num (RS.raw (RS.num (RS.num (RS.num ⟨b, 0⟩ 1).2 4).2 8).2 32).2 4).2 300).2) := by
 unfold parse
 have n12 : ¬ ((1 : UInt8) = 2) := by decide
 have n14 : ¬ ((1 : UInt8) = 4) := by decide
 have n21 : ¬ ((2 : UInt8) = 1) := by decide
 have n24 : ¬ ((2 : UInt8) = 4) := by decide
 have n31 : ¬ ((3 : UInt8) = 1) := by decide
 have n32 : ¬ ((3 : UInt8) = 2) := by decide
 have n34 : ¬ ((3 : UInt8) = 4) := by decide
 have n41 : ¬ ((4 : UInt8) = 1) := by decide
 have n42 : ¬ ((4 : UInt8) = 2) := by decide
 simp only [h, n12, n14, or_false, if_true, if_false]
theorem parse_2 {b : RecM.Bs} (h : UInt8.ofNat (RS.num ⟨b, 0⟩ 1).1 = 2) : parse b = (⟨2, (RS.num (RS.num ⟨b, 0⟩ 1).2 4).1, (RS.num (RS.num (RS.num ⟨b, 0⟩ 1).2 4).2 8).1, zsum, 0, []⟩, (RS.num (RS.num (RS.num ⟨b, 0⟩ 1).2 4).2 8).2) := by
 unfold parse
 have n12 : ¬ ((1 : UInt8) = 2) := by decide
 have n14 : ¬ ((1 : UInt8) = 4) := by decide
 have n21 : ¬ ((2 : UInt8) = 1) := by decide
 have n24 : ¬ ((2 : UInt8) = 4) := by decide
 have n31 : ¬ ((3 : UInt8) = 1) := by decide
 have n32 : ¬ ((3 : UInt8) = 2) := by decide
 have n34 : ¬ ((3 : UInt8) = 4) := by decide
 have n41 : ¬ ((4 : UInt8) = 1) := by decide
 have n42 : ¬ ((4 : UInt8) = 2) := by decide
 simp only [h, n21, n24, or_true, or_self, if_true, if_false]
theorem parse_3 {b : RecM.Bs} (h : UInt8.ofNat (RS.num ⟨b, 0⟩ 1).1 = 3) : parse b = (⟨3, 0, (RS.num (RS.num ⟨b, 0⟩ 1).2 8).1, zsum, 0, []⟩, (RS.num (RS.num ⟨b, 0⟩ 1).2 8).2) := by
 unfold parse
 have n12 : ¬ ((1 : UInt8) = 2) := by decide
 have n14 : ¬ ((1 : UInt8) = 4) := by decide
 have n21 : ¬ ((2 : UInt8) = 1) := by decide
 have n24 : ¬ ((2 : UInt8) = 4) := by decide
 have n31 : ¬ ((3 : UInt8) = 1) := by decide
 have n32 : ¬ ((3 : UInt8) = 2) := by decide
 have n34 : ¬ ((3 : UInt8) = 4) := by decide
 have n41 : ¬ ((4 : UInt8) = 1) := by decide
 have n42 : ¬ ((4 : UInt8) = 2) := by decide
 simp only [h, n31, n32, n34, or_self, if_false]
theorem parse_4 {b : RecM.Bs} (h : UInt8.ofNat (RS.num ⟨b, 0⟩ 1).1 = 4) : parse b = (⟨4, 0, 0, pad (RS.raw (RS.num ⟨b, 0⟩ 1).2 32).1, (RS.num (RS.raw (RS.num ⟨b, 0⟩ 1).2 32).2 4).1, (RS.blob (RS.num (RS.raw (RS.num ⟨b, 0⟩ 1).2 32).2 4).2 300).1⟩, (RS.blob (RS.num (RS.raw (RS.num ⟨b, 0⟩ 1).2 32).2 4).2 300).2) := by
 unfold parse
 have n12 : ¬ ((1 : UInt8) = 2) := by decide
 have n14 : ¬ ((1 : UInt8) = 4) := by decide
 have n21 : ¬ ((2 : UInt8) = 1) := by decide
 have n24 : ¬ ((2 : UInt8) = 4) := by decide
 have n31 : ¬ ((3 : UInt8) = 1) := by decide
 have n32 : ¬ ((3 : UInt8) = 2) := by decide
 have n34 : ¬ ((3 : UInt8) = 4) := by decide
 have n41 : ¬ ((4 : UInt8) = 1) := by decide
 have n42 : ¬ ((4 : UInt8) = 2) := by decide
 simp only [h, n41, n42, or_true, or_self, if_true, if_false]
theorem pad_id {s : RecM.Bs} (h : s.length = 32) : pad s = s := by unfold pad; rw [h]; simp
theorem one_le (c : UInt8) (l : RecM.Bs) : c :: l = RecM.le c.toNat 1 ++ l := by
 simp [RecM.le]
theorem zsum_len : zsum.length = 32 := by simp [zsum]
theorem first_a {b : RecM.Bs} {l : RecM.Bs} {e : Int} (he : e = 0) {x : Nat} (h : RS.num ⟨b, 0⟩ 1 = (x, ⟨l, e⟩)) : b = UInt8.ofNat x :: l := by
 subst he
 obtain ⟨_, h2, h3⟩ := num_ok (k := 1) (by omega) h
 rw [one_le, show (UInt8.ofNat x).toNat = x by simp; omega]
 exact h2
theorem pair_eta {α β : Type} (p : α × β) {x : β} (h : p.2 = x) : p = (p.1, x) := by rw [<- h]
theorem parse_a {b : RecM.Bs} (hf : (parse b).2.fin = 0) (hr : right (parse b).1 = true) : Fits (parse b).1 /\ laid (parse b).1 = b := by
 have h0 := fin_zero hf
 have hk := right_kind hr
 rw [parse_kind] at hk
 clear hf
 obtain ⟨a, ha⟩ : ∃ a, a = RS.num ⟨b, 0⟩ 1 := ⟨_, rfl⟩
 rw [<- ha] at hk
 obtain ⟨a1, al, ae⟩ := a
 have ha' := ha.symm
 rcases hk with k | k | k | k
 · rw [parse_1 (by rw [ha']; exact k)] at h0 ⊢
   rw [ha'] at h0 ⊢
   simp only at h0 k ⊢
   obtain ⟨d, hd⟩ : ∃ d, d = RS.num ⟨al, ae⟩ 4 := ⟨_, rfl⟩
   rw [<- hd] at h0 ⊢
   obtain ⟨s, hs⟩ : ∃ s, s = RS.num d.2 8 := ⟨_, rfl⟩
   rw [<- hs] at h0 ⊢
   obtain ⟨x, hx⟩ : ∃ x, x = RS.raw s.2 32 := ⟨_, rfl⟩
   rw [<- hx] at h0 ⊢
   obtain ⟨n, hn⟩ : ∃ n, n = RS.num x.2 4 := ⟨_, rfl⟩
   rw [<- hn] at h0 ⊢
   obtain ⟨y1, hy1⟩ : ∃ y, y = (RS.blob n.2 300).1 := ⟨_, rfl⟩
   have hy : RS.blob n.2 300 = (y1, ⟨[], 0⟩) := by rw [hy1]; exact pair_eta _ h0
   rw [<- hy1]
   obtain ⟨n1, nl, ne⟩ := n
   obtain ⟨q1, q2, q3⟩ := blob_ok hy
   simp only at q1 q2 ⊢
   subst q1
   obtain ⟨x1, xl, xe⟩ := x
   obtain ⟨p1, p2, p3⟩ := num_ok (k := 4) (by omega) hn.symm
   simp only at p1 p2 ⊢
   subst p1
   obtain ⟨s1, sl, se⟩ := s
   obtain ⟨r1, r2, r3⟩ := raw_ok (k := 32) hx.symm
   simp only at r1 r2 ⊢
   subst r1
   obtain ⟨d1, dl, de⟩ := d
   obtain ⟨t1, t2, t3⟩ := num_ok (k := 8) (by omega) hs.symm
   simp only at t1 t2 ⊢
   subst t1
   obtain ⟨u1, u2, u3⟩ := num_ok (k := 4) (by omega) hd.symm
   simp only at u1 u2 ⊢
   subst u1
   have hb := first_a rfl ha'
   rw [pad_id r3]
   refine ⟨⟨by simpa using u3, by simpa using t3, r3, by simpa using p3⟩, ?_⟩
   rw [hb, k, u2, t2, r2, p2, q2]
   simp [laid, RecM.tail]
 · rw [parse_2 (by rw [ha']; exact k)] at h0 ⊢
   rw [ha'] at h0 ⊢
   simp only at h0 k ⊢
   obtain ⟨d, hd⟩ : ∃ d, d = RS.num ⟨al, ae⟩ 4 := ⟨_, rfl⟩
   rw [<- hd] at h0 ⊢
   obtain ⟨y1, hy1⟩ : ∃ y, y = (RS.num d.2 8).1 := ⟨_, rfl⟩
   have hy : RS.num d.2 8 = (y1, ⟨[], 0⟩) := by rw [hy1]; exact pair_eta _ h0
   rw [<- hy1]
   obtain ⟨d1, dl, de⟩ := d
   obtain ⟨t1, t2, t3⟩ := num_ok (k := 8) (by omega) hy
   simp only at t1 t2 ⊢
   subst t1
   obtain ⟨u1, u2, u3⟩ := num_ok (k := 4) (by omega) hd.symm
   simp only at u1 u2 ⊢
   subst u1
   have hb := first_a rfl ha'
   refine ⟨⟨by simpa using u3, by simpa using t3, zsum_len, Nat.zero_lt_succ _⟩, ?_⟩
   rw [hb, k, u2, t2]
   simp [laid]
 · rw [parse_3 (by rw [ha']; exact k)] at h0 ⊢
   rw [ha'] at h0 ⊢
   simp only at h0 k ⊢
   obtain ⟨y1, hy1⟩ : ∃ y, y = (RS.num ⟨al, ae⟩ 8).1 := ⟨_, rfl⟩
   have hy : RS.num ⟨al, ae⟩ 8 = (y1, ⟨[], 0⟩) := by rw [hy1]; exact pair_eta _ h0
   rw [<- hy1]
   obtain ⟨t1, t2, t3⟩ := num_ok (k := 8) (by omega) hy
   simp only at t1 t2 ⊢
   subst t1
   have hb := first_a rfl ha'
   refine ⟨⟨Nat.zero_lt_succ _, by simpa using t3, zsum_len, Nat.zero_lt_succ _⟩, ?_⟩
   rw [hb, k, t2]
   simp [laid]
 · rw [parse_4 (by rw [ha']; exact k)] at h0 ⊢
   rw [ha'] at h0 ⊢
   simp only at h0 k ⊢
   obtain ⟨x, hx⟩ : ∃ x, x = RS.raw ⟨al, ae⟩ 32 := ⟨_, rfl⟩
   rw [<- hx] at h0 ⊢
   obtain ⟨n, hn⟩ : ∃ n, n = RS.num x.2 4 := ⟨_, rfl⟩
   rw [<- hn] at h0 ⊢
   obtain ⟨y1, hy1⟩ : ∃ y, y = (RS.blob n.2 300).1 := ⟨_, rfl⟩
   have hy : RS.blob n.2 300 = (y1, ⟨[], 0⟩) := by rw [hy1]; exact pair_eta _ h0
   rw [<- hy1]
   obtain ⟨n1, nl, ne⟩ := n
   obtain ⟨q1, q2, q3⟩ := blob_ok hy
   simp only at q1 q2 ⊢
   subst q1
   obtain ⟨x1, xl, xe⟩ := x
   obtain ⟨p1, p2, p3⟩ := num_ok (k := 4) (by omega) hn.symm
   simp only at p1 p2 ⊢
   subst p1
   obtain ⟨r1, r2, r3⟩ := raw_ok (k := 32) hx.symm
   simp only at r1 r2 ⊢
   subst r1
   have hb := first_a rfl ha'
   rw [pad_id r3]
   refine ⟨⟨Nat.zero_lt_succ _, Nat.zero_lt_succ _, r3, by simpa using p3⟩, ?_⟩
   rw [hb, k, r2, p2, q2]
   simp [laid, RecM.tail]
theorem parse_b {n : Nte} (f : Fits n) (hr : right n = true) : parse (laid n) = (n, ⟨[], 0⟩) := by
 have hk := right_kind hr
 have hd := right_data hr
 have b1 := f.addr
 have b2 := f.seq
 have b3 := f.kn
 have hfst : ∀ l, RS.num ⟨n.kind :: l, 0⟩ 1 = (n.kind.toNat, ⟨l, 0⟩) := by
  intro l
  have := num_run n.kind.toNat 1 l (by omega) (by have := n.kind.toNat_lt; omega)
  rw [<- one_le] at this
  exact this
 obtain ⟨c, ad, sq, su, kn, da⟩ := n
 simp only at *
 rcases hk with k | k | k | k
 all_goals subst k
 · have e : laid ⟨1, ad, sq, su, kn, da⟩ = 1 :: (RecM.le ad 4 ++ (RecM.le sq 8 ++ (su ++ (RecM.le kn 4 ++ (RecM.le da.length 2 ++ (da ++ [])))))) := by simp [laid, RecM.tail]
   rw [e]
   have h1 := hfst (RecM.le ad 4 ++ (RecM.le sq 8 ++ (su ++ (RecM.le kn 4 ++ (RecM.le da.length 2 ++ (da ++ []))))))
   rw [parse_1 (by rw [h1]; rfl), h1]
   simp only [num_run ad 4 _ (by omega) (by omega), num_run sq 8 _ (by omega) (by omega), raw_run su _ 32 f.sum, num_run kn 4 _ (by omega) (by omega), blob_run da _ hd, pad_id f.sum, show (4 : Int) = ((4 : Nat) : Int) from rfl, show (8 : Int) = ((8 : Nat) : Int) from rfl, show (32 : Int) = ((32 : Nat) : Int) from rfl]
 · obtain ⟨z1, z2, z3⟩ := right_2 hr rfl
   simp only at z1 z2 z3
   subst z1 z2 z3
   have e : laid ⟨2, ad, sq, zsum, 0, []⟩ = 2 :: (RecM.le ad 4 ++ (RecM.le sq 8 ++ [])) := by simp [laid]
   rw [e]
   have h1 := hfst (RecM.le ad 4 ++ (RecM.le sq 8 ++ []))
   rw [parse_2 (by rw [h1]; rfl), h1]
   simp only [num_run ad 4 _ (by omega) (by omega), num_run sq 8 _ (by omega) (by omega), show (4 : Int) = ((4 : Nat) : Int) from rfl, show (8 : Int) = ((8 : Nat) : Int) from rfl]
 · obtain ⟨z0, z1, z2, z3⟩ := right_3 hr rfl
   simp only at z0 z1 z2 z3
   subst z0 z1 z2 z3
   have e : laid ⟨3, 0, sq, zsum, 0, []⟩ = 3 :: (RecM.le sq 8 ++ []) := by simp [laid]
   rw [e]
   have h1 := hfst (RecM.le sq 8 ++ [])
   rw [parse_3 (by rw [h1]; rfl), h1]
   simp only [num_run sq 8 _ (by omega) (by omega), show (8 : Int) = ((8 : Nat) : Int) from rfl]
 · obtain ⟨z0, z1, z2⟩ := right_4 hr rfl
   simp only at z0 z1 z2
   subst z0 z1
   have e : laid ⟨4, 0, 0, su, kn, da⟩ = 4 :: (su ++ (RecM.le kn 4 ++ (RecM.le da.length 2 ++ (da ++ [])))) := by simp [laid, RecM.tail]
   rw [e]
   have h1 := hfst (su ++ (RecM.le kn 4 ++ (RecM.le da.length 2 ++ (da ++ []))))
   rw [parse_4 (by rw [h1]; rfl), h1]
   simp only [raw_run su _ 32 f.sum, num_run kn 4 _ (by omega) (by omega), blob_run da _ hd, pad_id f.sum, show (4 : Int) = ((4 : Nat) : Int) from rfl, show (32 : Int) = ((32 : Nat) : Int) from rfl]
theorem take_parse (b : RecM.Bs) : RecM.take b = if (parse b).2.fin = 0 /\ right (parse b).1 = true then ((parse b).1, 0) else (zeroN, 100) := by
 by_cases h : IsNote b
 · obtain ⟨n, f, hr, rfl⟩ := h
   have hp := parse_b f hr
   rw [take_laid f hr, hp, if_pos ⟨by unfold RS.fin; simp, hr⟩]
 · rw [take_none h, if_neg]
   rintro ⟨h1, h2⟩
   obtain ⟨f, e⟩ := parse_a h1 h2
   exact h ⟨_, f, h2, e⟩
end Rec
end Go.Proofs.YtahjjcmeocibbaaGreatDoor
end
section
namespace Go.Proofs.YtahjjcmeocibbaaGreatDoor
open Go.RowKit Go.Own
namespace Byt
abbrev strV (b : List UInt8) : Value := .string (strB b)
theorem neq_str {o : Oper} {x y : Tmp} (ho : o.op = .binOp .neq 9 (.tmp x) (.tmp y) 9) (a b : List UInt8) (v : Bool) (hv : decide (a = b) = !v) (ρ : Operand -> Value) (w : World) (h0 : ρ (.tmp x) = strV a) (h1 : ρ (.tmp y) = strV b) :
 (execOp ρ o).run Tryz.prog w = .ok (.value (.bool v)) w := by
 simp only [execOp, ho, h0, h1]
 cases v <;> simp at hv <;> simp [go_sem, strB_toList, hv]
theorem oneInt : One Tryz.prog 23 3 (.int .i64 0) 8 := ⟨Tryz.underlying23, by kernel_rfl, rfl⟩
theorem oneStr : One Tryz.prog 36 9 (.string ⟨#[]⟩) 16 := ⟨Tryz.underlying36, by kernel_rfl, rfl⟩
end Byt
end Go.Proofs.YtahjjcmeocibbaaGreatDoor
end
section
namespace Go.Proofs.YtahjjcmeocibbaaGreatDoor
open Go.RowKit Go.Own
namespace Rec
open Go.RecM Byt
abbrev errN (n : Nat) : Value := .int .i64 (n : Int)
def keyC (s : RecM.Bs) (k : Nat) : List Value := s.map byteV ++ [.int .u32 (k : Int)]
def ntC (n : Nte) (v : Value) : List Value := .int .u8 (n.kind.toNat : Int) :: .int .u32 (n.addr : Int) :: .int .u64 (n.seq : Int) :: (keyC n.sum n.kn ++ [v])
theorem keyC_len (s : RecM.Bs) (k : Nat) (h : s.length = 32) : (keyC s k).length = 33 := by unfold keyC; simp [h]
theorem ntC_len (n : Nte) (v : Value) (h : n.sum.length = 32) : (ntC n v).length = 37 := by unfold ntC; simp [keyC_len _ _ h]
theorem ntC_data (n : Nte) (v : Value) (h : n.sum.length = 32) : (ntC n v)[36]? = some v := by
 unfold ntC
 show (keyC n.sum n.kn ++ [v])[33]? = some v
 rw [List.getElem?_append_right (by rw [keyC_len _ _ h]; omega), keyC_len _ _ h]
 rfl
theorem ntC_kn (n : Nte) (v : Value) (h : n.sum.length = 32) : (ntC n v)[35]? = some (.int .u32 (n.kn : Int)) := by
 unfold ntC keyC
 show ((n.sum.map byteV ++ [_]) ++ [v])[32]? = _
 rw [List.append_assoc, List.getElem?_append_right (by simp [h]), List.length_map, h]
 rfl
theorem ntC_key (n : Nte) (v : Value) (j : Nat) (u : Value) (h : (keyC n.sum n.kn)[j]? = some u) : (ntC n v)[3 + j]? = some u := by
 unfold ntC
 rw [Nat.add_comm]
 show (keyC n.sum n.kn ++ [v])[j]? = some u
 rw [List.getElem?_append_left (List.getElem?_eq_some_iff.1 h).1]
 exact h
theorem ntC_sum (n : Nte) (v : Value) (j : Nat) (u : Value) (h : (n.sum.map byteV)[j]? = some u) : (ntC n v)[3 + j]? = some u := by
 refine ntC_key n v j u ?_
 unfold keyC
 rw [List.getElem?_append_left (List.getElem?_eq_some_iff.1 h).1]
 exact h
theorem ntC_one {n : Nte} {v : Value} (hv : v.oneCell' = true) : ∀ u ∈ ntC n v, u.oneCell' = true := by
 intro u hu
 unfold ntC keyC at hu
 simp only [List.mem_cons, List.mem_append, List.not_mem_nil, or_false] at hu
 rcases hu with rfl | rfl | rfl | (h | rfl) | rfl
 · rfl
 · rfl
 · rfl
 · exact byteV_one _ u h
 · rfl
 · exact hv
theorem info_key (cs : List Value) (h : cs.length = 33) : (Tryz.prog.info? 51).map (·.size) = some cs.length := by
 have h0 : (Tryz.prog.info? 51).map (fun i => i.size) = some 33 := by kernel_rfl
 rw [h]; exact h0
theorem info_note (cs : List Value) (h : cs.length = 37) : (Tryz.prog.info? 54).map (·.size) = some cs.length := by
 have h0 : (Tryz.prog.info? 54).map (fun i => i.size) = some 37 := by kernel_rfl
 rw [h]; exact h0
theorem info_noteA (cs : List Value) (h : cs.length = 37) : (Tryz.prog.info? 54).map (·.size) = some cs.toArray.size := by rw [List.size_toArray]; exact info_note cs h
theorem load_key (cs : List Value) (hl : cs.length = 33) {o : Oper} {x : Tmp} (ho : o.op = .load 51 (.tmp x)) {b k : Nat} (ρ : Operand -> Value) {w : World} (hr : w.rangeAt b k cs) (h0 : ρ (.tmp x) = .pointer (some ⟨b, k, none⟩)) : (execOp ρ o).run Tryz.prog w = .ok (.value (.agg cs.toArray)) w := by
 have := run_loadAt_mid (P := Tryz.prog) w b k 51 cs _ hr Tryz.underlying51 rfl (info_key cs hl)
 unfold execOp
 simp only [ho, h0, Sem.run_bind, this, Result.andThen_ok, Sem.run_pure]
theorem load_note (cs : List Value) (hl : cs.length = 37) {o : Oper} {x : Tmp} (ho : o.op = .load 54 (.tmp x)) {b k : Nat} (ρ : Operand -> Value) {w : World} (hr : w.rangeAt b k cs) (h0 : ρ (.tmp x) = .pointer (some ⟨b, k, none⟩)) : (execOp ρ o).run Tryz.prog w = .ok (.value (.agg cs.toArray)) w := by
 have := run_loadAt_mid (P := Tryz.prog) w b k 54 cs _ hr Tryz.underlying54 rfl (info_note cs hl)
 unfold execOp
 simp only [ho, h0, Sem.run_bind, this, Result.andThen_ok, Sem.run_pure]
theorem built_key0 : Tryz.prog.built 51 [] = some (keyC zsum 0).toArray := by kernel_rfl
theorem zero_key {o : Oper} (ho : o.op = .build 51 #[]) (ρ : Operand -> Value) (w : World) : (execOp ρ o).run Tryz.prog w = .ok (.value (.agg (keyC zsum 0).toArray)) w := by
 have := run_build w 51 (#[] : Array (Nat × Value)) _ built_key0
 unfold execOp
 simp only [ho, List.map_toArray, List.map_nil, Sem.run_bind, this, Result.andThen_ok, Sem.run_pure]
theorem bytes_ints (l : RecM.Bs) : (l.map (fun x => (x.toNat : Int))).map (Value.int .u8) = l.map byteV := by
 rw [List.map_map]; rfl
theorem bytes_eq (a b : RecM.Bs) : decide (a.map (fun x => (x.toNat : Int)) = b.map (fun x => (x.toNat : Int))) = decide (a = b) := by
 apply decide_eq_decide.2
 constructor
 · intro h
   exact (List.map_inj_right (fun x y h => UInt8.toNat_inj.1 (by omega))).1 h
 · rintro rfl; rfl
theorem run_eq_sum (d : Nat) (a b : RecM.Bs) (ha : a.length = 32) (hb : b.length = 32) (w : World) : (Op.equalIn (d + 2) 47 (.agg (a.map byteV).toArray) (.agg (b.map byteV).toArray)).run Tryz.prog w = .ok (decide (a = b)) w := by
 have h := run_equalIn_ints (P := Tryz.prog) d 47 5 .u8 (a.map (fun x => (x.toNat : Int))) (b.map (fun x => (x.toNat : Int))) (by simp [ha, hb]) (by rw [List.length_map, ha]; exact Tryz.underlying47) Tryz.underlying5 (fun w => by kernel_rfl) (fun w => by kernel_rfl) w
 rw [bytes_eq, bytes_ints, bytes_ints] at h
 exact h
theorem key_fields : (Tryz.prog.fieldsOf 51).toList.map (fun f => (f.name, f.type, f.offset)) = [("Sum", 47, 0), ("N", 49, 32)] := by kernel_rfl
theorem part_sum (a : RecM.Bs) (x : Nat) (ha : a.length = 32) (w : World) : (part 47 (keyC a x).toArray 0).run Tryz.prog w = .ok (.agg (a.map byteV).toArray) w := by
 have h1 : ∀ w, (isAgg 47).run Tryz.prog w = .ok true w := fun w => by kernel_rfl
 have h2 : ∀ w, (sizeOf 47).run Tryz.prog w = .ok 32 w := fun w => by kernel_rfl
 have e : (keyC a x).toArray.extract 0 (0 + 32) = (a.map byteV).toArray := by
  unfold keyC
  rw [List.extract_toArray]
  congr 1
  rw [List.extract_eq_take_drop, List.drop_zero, List.take_append_of_le_length (by simp [ha]), List.take_of_length_le (by simp [ha])]
 unfold part
 simp only [Sem.run_bind, h1, h2, Result.andThen_ok, if_true, Sem.run_pure, e]
theorem part_kn (a : RecM.Bs) (x : Nat) (ha : a.length = 32) (w : World) : (part 49 (keyC a x).toArray 32).run Tryz.prog w = .ok (.int .u32 (x : Int)) w := by
 have h1 : ∀ w, (isAgg 49).run Tryz.prog w = .ok false w := fun w => by kernel_rfl
 have e : (keyC a x).toArray[32]? = some (.int .u32 (x : Int)) := by
  unfold keyC
  rw [List.getElem?_toArray, List.getElem?_append_right (by simp [ha]), List.length_map, ha]
  rfl
 unfold part
 simp only [Sem.run_bind, h1, Result.andThen_ok, Bool.false_eq_true, if_false, e, Sem.run_pure]
theorem run_eq_key (a b : RecM.Bs) (x y : Nat) (ha : a.length = 32) (hb : b.length = 32) (w : World) : (Op.equalIn 10000 51 (.agg (keyC a x).toArray) (.agg (keyC b y).toArray)).run Tryz.prog w = .ok (decide (a = b) && decide (x = y)) w := by
 have ht : Tryz.prog.underlying 51 = some (.struct (Tryz.prog.fieldsOf 51)) := by kernel_rfl
 have hp : Tryz.prog.stoodInHeld 51 = false := by kernel_rfl
 have h := run_equalIn_struct (P := Tryz.prog) w 9999 51 (keyC a x).toArray (keyC b y).toArray ht hp
 rw [h]
 have hf := key_fields
 match hl : (Tryz.prog.fieldsOf 51).toList with
 | [] => rw [hl] at hf; simp at hf
 | [_] => rw [hl] at hf; simp at hf
 | _ :: _ :: _ :: _ => rw [hl] at hf; simp at hf
 | [f0, f1] =>
  rw [hl] at hf
  simp only [List.map_cons, List.map_nil, List.cons.injEq, Prod.mk.injEq, and_true] at hf
  obtain ⟨⟨n0, t0, o0⟩, n1, t1, o1⟩ := hf
  have hs := run_eq_sum 9997 a b ha hb w
  have hi := run_equalIn_int (P := Tryz.prog) w 9998 49 .u32 .u32 (x : Int) (y : Int) Tryz.underlying49
  simp only [Op.eqFields, n0, t0, o0, n1, t1, o1, ne_eq, String.reduceEq, not_false_eq_true, if_true, Sem.run_bind, part_sum a x ha, part_sum b y hb, Result.andThen_ok]
  rw [hs]
  by_cases hab : a = b
  · subst hab
    simp only [decide_true, Result.andThen_ok, Bool.not_true, Bool.false_eq_true, if_false, Sem.run_bind, part_kn a x ha, part_kn a y ha, Bool.true_and]
    rw [hi]
    by_cases hxy : x = y
    · simp [hxy]
    · have hxy' : ¬ (x : Int) = (y : Int) := by omega
      simp [hxy, hxy']
  · simp [hab]
theorem kind_is (c : UInt8) : (c = 1 ↔ c.toNat = 1) /\ (c = 2 ↔ c.toNat = 2) /\ (c = 3 ↔ c.toNat = 3) /\ (c = 4 ↔ c.toNat = 4) :=
 ⟨⟨fun h => by rw [h]; rfl, fun h => UInt8.toNat_inj.1 (by rw [h]; rfl)⟩, ⟨fun h => by rw [h]; rfl, fun h => UInt8.toNat_inj.1 (by rw [h]; rfl)⟩, ⟨fun h => by rw [h]; rfl, fun h => UInt8.toNat_inj.1 (by rw [h]; rfl)⟩, ⟨fun h => by rw [h]; rfl, fun h => UInt8.toNat_inj.1 (by rw [h]; rfl)⟩⟩
end Rec
end Go.Proofs.YtahjjcmeocibbaaGreatDoor
end
section
namespace Go.Proofs.YtahjjcmeocibbaaGreatDoor
open Go.RowKit Go.Own
namespace Rec
open Go.RecM Byt
open Cod (RS)
abbrev nilV : Value := .slice none 0 0
abbrev ntV (n : Nte) (v : Value) : Value := .agg (ntC n v).toArray
theorem built_note (k : Nat) : Tryz.prog.built 54 [(0, .int .u8 (k : Int))] = some (.int .u8 (k : Int) :: (ntC zeroN nilV).drop 1).toArray := by kernel_rfl
theorem built_note0 : Tryz.prog.built 54 [] = some (ntC zeroN nilV).toArray := by kernel_rfl
theorem zero_note : (Tryz.prog.info? 54).bind (·.zero) = some (.agg (ntC zeroN nilV).toArray) := by kernel_rfl
theorem ntC_setN (n : Nte) (v : Value) (h : n.sum.length = 32) (k : Nat) : (ntC n v).set 35 (.int .u32 (k : Int)) = ntC { n with kn := k } v := by
 unfold ntC keyC
 show _ :: _ :: _ :: ((((n.sum.map byteV) ++ [Value.int .u32 (n.kn : Int)]) ++ [v]).set 32 (.int .u32 (k : Int))) = _
 rw [List.append_assoc, List.set_append_right _ _ (by simp [h]), List.append_assoc, List.length_map, h]
 rfl
theorem ntC_setD (n : Nte) (v u : Value) (h : n.sum.length = 32) : (ntC n v).set 36 u = ntC n u := by
 unfold ntC
 show _ :: _ :: _ :: ((keyC n.sum n.kn ++ [v]).set 33 u) = _
 rw [List.set_append_right _ _ (by rw [keyC_len _ _ h]; omega), keyC_len _ _ h]
 rfl
theorem num_bound (r : RS) (k : Nat) (hk : k <= 8) : (r.num (k : Int)).1 < 2 ^ (8 * k) := by
 obtain ⟨l, e⟩ := r
 unfold RS.num
 split
 · exact Nat.two_pow_pos _
 split
 · exact Nat.two_pow_pos _
 simp only
 split
 · exact Nat.two_pow_pos _
 · simp only [Int.toNat_natCast]
   rw [cod_num]
   exact Nat.lt_of_lt_of_le (num_lt _) (Nat.pow_le_pow_right (by decide) (by rw [List.length_take]; omega))
theorem raw_size (r : RS) : (r.raw 32).1.length = 0 \/ (r.raw 32).1.length = 32 := by
 obtain ⟨l, e⟩ := r
 unfold RS.raw
 split
 · exact .inl rfl
 split
 · exact .inl rfl
 simp only
 split
 · exact .inl rfl
 · rename_i h
   right
   rw [List.length_take]
   show min 32 l.length = 32
   omega
theorem blob_size (r : RS) : (r.blob 300).1.length <= 300 := by
 obtain ⟨l, e⟩ := r
 unfold RS.blob
 split
 · exact Nat.zero_le _
 simp only
 split
 · exact Nat.zero_le _
 · simp only
   rw [List.length_take]
   unfold Cod.blobSz
   split
   · exact Nat.zero_le _
   split
   · exact Nat.zero_le _
   split
   · exact Nat.zero_le _
   · simp only; omega
end Rec
end Go.Proofs.YtahjjcmeocibbaaGreatDoor
end
section
namespace Go.Proofs.YtahjjcmeocibbaaGreatDoor
open Go.RowKit Go.Own
namespace Rec
open Go.RecM Byt
theorem cod_le (n k : Nat) : Cod.le n k = RecM.le n k := by
 induction k with
 | zero => rfl
 | succ k ih => rw [Cod.le, RecM.le, ih]
theorem nt_cells {B : Nat} {w0 w : World} {Ps : List Asn} {b : Nat} {cs : List Value} (H : Own.St B w0 w Ps) (i : Nat) (hi : Ps[i]? = some (AVals b 54 cs)) {n : Nte} {v : Value} (hcs : cs = ntC n v) (hs : n.sum.length = 32) :
 w.cell? ⟨b, 0, none⟩ = some (.int .u8 (n.kind.toNat : Int)) /\ w.cell? ⟨b, 1, none⟩ = some (.int .u32 (n.addr : Int)) /\ w.cell? ⟨b, 2, none⟩ = some (.int .u64 (n.seq : Int)) /\ w.cell? ⟨b, 35, none⟩ = some (.int .u32 (n.kn : Int)) /\ w.cell? ⟨b, 36, none⟩ = some v /\
  (∀ a, some (⟨b, 3, none⟩ : Addr) = some a -> ∀ j u, (n.sum.map byteV)[j]? = some u -> w.cell? (a.add j) = some u) := by
 have cc : ∀ j u, cs[j]? = some u -> w.cell? ⟨b, j, none⟩ = some u := fun j u h => (H.cellV i hi j h).1
 refine ⟨cc 0 _ (by rw [hcs]; rfl), cc 1 _ (by rw [hcs]; rfl), cc 2 _ (by rw [hcs]; rfl), cc 35 _ (by rw [hcs]; exact ntC_kn n v hs), cc 36 _ (by rw [hcs]; exact ntC_data n v hs), ?_⟩
 intro a ha j u hu
 cases ha
 rw [add_of]
 exact cc (3 + j) u (by rw [hcs]; exact ntC_sum n v j u hu)
theorem own_news {B : Nat} {w0 w : World} {Ps : List Asn} {ao : Option Addr} {n cap : Nat} {l : List UInt8} (H : Own.St B w0 w Ps) (i : Nat) (hi : Ps[i]? = some (AB ao n cap l)) : (ao = none -> n = 0 /\ cap = 0) /\ (∀ a, ao = some a -> ∀ j u, (l.map byteV)[j]? = some u -> w.cell? (a.add j) = some u) :=
 ⟨(ab_len H i hi).2.2.2, vcells (ab_view H i hi)⟩
theorem lay_of {n : Nte} (hr : right n = true) : lay n = (laid n, 0) := by unfold lay; rw [if_pos hr]
end Rec
end Go.Proofs.YtahjjcmeocibbaaGreatDoor
end
section
namespace Go.Proofs.YtahjjcmeocibbaaGreatDoor
open Go.RowKit Go.Own
namespace Rec
open Go.RecM Byt
def RetYes (w : World) (e : Ending) (w' : World) : Prop := e = .returned (.bool true) /\ Below w.heap.size w w'
def LayDone (x : RecM.Bs × Nat) (w : World) (e : Ending) (w' : World) : Prop := ∃ ao cap, e = .returned (.tuple #[.slice ao x.1.length cap, errN x.2]) /\ Given w' ao x.1.length cap x.1 /\ Below w.heap.size w w'
def TakeNew (x : Nte × Nat) (w : World) (e : Ending) (w' : World) : Prop := ∃ ao cap, e = .returned (.tuple #[ntV x.1 (.slice ao x.1.data.length cap), errN x.2]) /\ Given w' ao x.1.data.length cap x.1.data /\ View w' (fun k => w.heap.size <= k) ao x.1.data /\ Below w.heap.size w w'
structure Kept (W : World) where
end Rec
end Go.Proofs.YtahjjcmeocibbaaGreatDoor
end
section
namespace Go.Own
open Go.RowKit
def AView (ao : Option Addr) (l : List UInt8) : Asn where
 holds S w := View w S ao l /\ ∀ k, S k -> k < w.heap.size
 keep h g hd := ⟨h.1.step g hd, fun k hk => Nat.lt_of_lt_of_le (h.2 k hk) g.size⟩
 lt h := h.2
theorem St.adoptView {B : Nat} {w0 w1 w2 : World} {Ps : List Asn} (H : St B w0 w1 Ps) (g : Below w1.heap.size w1 w2) {ao : Option Addr} {l : List UInt8} (h : View w2 (fun k => w1.heap.size <= k) ao l) : St B w0 w2 (AView ao l :: Ps) :=
 H.adopt g (T := fun k => w1.heap.size <= k /\ k < w2.heap.size) (AView ao l) ⟨h.live, fun _ hk => hk.2⟩ (fun _ hk => hk.1)
theorem St.viewAt {B : Nat} {w0 w : World} {Ps : List Asn} (H : St B w0 w Ps) (i : Nat) {ao : Option Addr} {l : List UInt8} (hi : Ps[i]? = some (AView ao l)) : View w (fun k => k < w.heap.size) ao l := by
 obtain ⟨S, hS, _⟩ := H.at i hi
 exact hS.1.mono hS.2
end Go.Own
end
section
namespace Go.Own
open Go.RowKit
abbrev GSl := Option Addr × Nat × List UInt8
def GOk (w : World) (S : Nat -> Prop) (g : GSl) : Prop := View w S g.1 g.2.2 /\ g.2.2.length <= g.2.1 /\ g.2.1 <= maxLen /\ (g.1 = none -> g.2.1 = 0)
def AGivens (gs : List GSl) : Asn where
 holds S w := (∀ g ∈ gs, GOk w S g) /\ ∀ k, S k -> k < w.heap.size
 keep h g hd := ⟨fun x hx => ⟨(h.1 x hx).1.step g hd, (h.1 x hx).2⟩, fun k hk => Nat.lt_of_lt_of_le (h.2 k hk) g.size⟩
 lt h := h.2
theorem St.givensNil {B : Nat} {w0 w : World} {Ps : List Asn} (H : St B w0 w Ps) : St B w0 w (AGivens [] :: Ps) :=
 H.new (S' := fun _ => False) (AGivens []) ⟨fun g hg => (by cases hg), fun _ h => h.elim⟩ (Step.refl (fun _ => False) w)
theorem St.givensJoin {B : Nat} {w0 w : World} {Ps : List Asn} {xs ys : List GSl} (H : St B w0 w (AGivens xs :: AGivens ys :: Ps)) : St B w0 w (AGivens (xs ++ ys) :: Ps) := by
 obtain ⟨hb, hs, S, ⟨S1, S2, h1, ⟨S3, S4, h3, h4, h5, h6⟩, h7, h8⟩, hB⟩ := H
 refine ⟨hb, hs, S, ⟨fun k => S1 k \/ S3 k, S4, ⟨fun g hg => ?_, fun k hk => ?_⟩, h4, ?_, ?_⟩, hB⟩
 · rcases List.mem_append.1 hg with hg | hg
   · exact ⟨(h1.1 g hg).1.mono (fun _ hk => .inl hk), (h1.1 g hg).2⟩
   · exact ⟨(h3.1 g hg).1.mono (fun _ hk => .inr hk), (h3.1 g hg).2⟩
 · exact hk.elim (h1.2 k) (h3.2 k)
 · intro k hk hk4
   rcases hk with hk | hk
   · exact h7 k hk ((h6 k).2 (.inr hk4))
   · exact h5 k hk hk4
 · intro k
   rw [h8 k, h6 k]
   constructor
   · rintro (h | h | h)
     · exact .inl (.inl h)
     · exact .inl (.inr h)
     · exact .inr h
   · rintro ((h | h) | h)
     · exact .inl h
     · exact .inr (.inl h)
     · exact .inr (.inr h)
theorem St.givenAt {B : Nat} {w0 w : World} {Ps : List Asn} {gs : List GSl} (H : St B w0 w Ps) (i : Nat) (hi : Ps[i]? = some (AGivens gs)) (g : GSl) (hg : g ∈ gs) : View w (fun k => k < w.heap.size) g.1 g.2.2 /\ g.2.2.length <= g.2.1 /\ g.2.1 <= maxLen /\ (g.1 = none -> g.2.1 = 0) := by
 obtain ⟨S, hS, _⟩ := H.at i hi
 obtain ⟨h1, h2⟩ := hS.1 g hg
 exact ⟨h1.mono hS.2, h2⟩
end Go.Own
namespace Go.Proofs.YtahjjcmeocibbaaGreatDoor
open Go.RowKit Go.Own
namespace Lg
open Go.LogM Byt
abbrev errL (n : Nat) : Value := .int .i64 (n : Int)
abbrev i64L (n : Int) : Prop := -9223372036854775808 <= n /\ n <= 9223372036854775807
abbrev ptr (p : Nat) : Value := .pointer (some ⟨p, 0, none⟩)
abbrev plcA (p : Plc) : Array Value := #[.int .i64 p.seg, .int .i64 p.page, .int .i64 p.pages]
def entC (e : Ent) (v : Value) : List Value := .int .i64 e.plc.seg :: .int .i64 e.plc.page :: .int .i64 e.plc.pages :: Rec.ntC e.note v
theorem entC_len (e : Ent) (v : Value) (h : e.note.sum.length = 32) : (entC e v).length = 40 := by unfold entC; simp [Rec.ntC_len _ _ h]
def gslV (g : GSl) : Value := .slice g.1 g.2.2.length g.2.1
def entsC (E : List Ent) (gs : List GSl) : List Value := (List.zipWith (fun e g => entC e (gslV g)) E gs).flatten
def mayL (fs : FlaM.FS) (tb : TabM.T) (fr : Int) : Bool := decide (0 <= fr) && decide (fr + (tb.rows.length : Int) <= (fs.safe.length : Int)) && decide (2 <= fs.pp)
structure Kept (W : World) (FK : Fla.Kept W) (TK : Tab.Kept W) where
 A : Nat -> Nat -> Nat -> Nat -> Nat -> TabM.T -> Nat -> Asn
 new : ∀ {B : Nat} {w0 w : World} {Ps : List Asn} {pf pt : Nat} {fs : FlaM.FS} {tb : TabM.T} {N : Nat} (fr : Int), Below W.heap.size W w -> Own.St B w0 w (FK.A pf fs :: TK.A pt tb :: Ps) -> FlaM.Ok fs N -> TabM.Ok tb N -> N <= 9000 -> i64L fr ->
  Calls Tryz.prog 7 #[ptr pf, .int .i64 fr, ptr pt] w fun e w' => if mayL fs tb fr = true then ∃ p, e = .returned (.tuple #[ptr p, errL 0]) /\ Own.St B w0 w' (A p pf pt fr.toNat fs.pp tb fs.pp :: FK.A pf fs :: TK.A pt tb :: Ps) else e = .returned (.tuple #[.pointer none, errL 1]) /\ Own.St B w0 w' (FK.A pf fs :: TK.A pt tb :: Ps)
 append : ∀ {B : Nat} {w0 w : World} {Ps : List Asn} {p pf pt fr : Nat} {σ : LG} {N : Nat} (n : RecM.Nte) (ao : Option Addr) (len cap : Nat), Below W.heap.size W w -> Own.St B w0 w (A p pf pt fr σ.fs.pp σ.tb σ.a :: FK.A pf σ.fs :: TK.A pt σ.tb :: Ps) -> LgOk fr σ N -> N <= 9000 -> RecM.Fits n -> Fla.Lies B w Ps ao len cap n.data -> len <= 1000000 ->
  Calls Tryz.prog 10 #[ptr p, Rec.ntV n (.slice ao len cap)] w fun e w' => e = .returned (.tuple #[.agg (plcA (appendL fr σ n).2.1), errL (appendL fr σ n).2.2]) /\ Own.St B w0 w' (A p pf pt fr (appendL fr σ n).1.fs.pp (appendL fr σ n).1.tb (appendL fr σ n).1.a :: FK.A pf (appendL fr σ n).1.fs :: TK.A pt (appendL fr σ n).1.tb :: Ps)
 scan : ∀ {B : Nat} {w0 w : World} {Ps : List Asn} {p pf pt fr : Nat} {σ : LG} {N : Nat} (seg page : Int), Below W.heap.size W w -> Own.St B w0 w (A p pf pt fr σ.fs.pp σ.tb σ.a :: FK.A pf σ.fs :: TK.A pt σ.tb :: Ps) -> LgOk fr σ N -> N <= 9000 -> i64L seg -> i64L page ->
  Calls Tryz.prog 17 #[ptr p, .int .i64 seg, .int .i64 page] w fun e w' => ∃ (v : Value) (gs : List GSl), gs.map (fun g => g.2.2) = (scanL fr σ seg page).1.2.map (fun e => e.note.data) /\ e = .returned (.tuple #[.int .u64 ((scanL fr σ seg page).1.1 : Int), v, errL (scanL fr σ seg page).2]) /\
   Own.St B w0 w' (ARow 64 40 v (scanL fr σ seg page).1.2.length (entsC (scanL fr σ seg page).1.2 gs) :: AGivens gs :: A p pf pt fr σ.fs.pp σ.tb σ.a :: FK.A pf σ.fs :: TK.A pt σ.tb :: Ps)
end Lg
end Go.Proofs.YtahjjcmeocibbaaGreatDoor
end
section
namespace Go.Own
open Go.RowKit
theorem St.wide {B : Nat} {W w0 w : World} {Ps : List Asn} (hW : Below W.heap.size W w0) (hB : W.heap.size <= B) (h : St B w0 w Ps) : Below W.heap.size W w := hW.trans (h.below.mono hB)
end Go.Own
namespace Go.Proofs.YtahjjcmeocibbaaGreatDoor
open Go.RowKit Go.Own
namespace Lg
open Go.LogM Byt
def RetYes (w : World) (e : Ending) (w' : World) : Prop := e = .returned (.bool true) /\ Below w.heap.size w w'
theorem third {B : Nat} {w0 w : World} {x a b c : Asn} {Ps : List Asn} (h : Own.St B w0 w (x :: a :: b :: c :: Ps)) : Own.St B w0 w (a :: b :: c :: x :: Ps) := by
 refine h.perm ?_
 have h1 : (x :: a :: b :: c :: Ps).Perm (a :: x :: b :: c :: Ps) := List.Perm.swap _ _ _
 have h2 : (a :: x :: b :: c :: Ps).Perm (a :: b :: x :: c :: Ps) := (List.Perm.swap _ _ _).cons _
 have h3 : (a :: b :: x :: c :: Ps).Perm (a :: b :: c :: x :: Ps) := ((List.Perm.swap _ _ _).cons _).cons _
 exact (h1.trans h2).trans h3
abbrev LSt {W : World} {FK : Fla.Kept W} {TK : Tab.Kept W} (K : Kept W FK TK) (B : Nat) (w0 w : World) (p pf pt fr : Nat) (σ : LG) (Ps : List Asn) : Prop := Own.St B w0 w (K.A p pf pt fr σ.fs.pp σ.tb σ.a :: FK.A pf σ.fs :: TK.A pt σ.tb :: Ps)
end Lg
end Go.Proofs.YtahjjcmeocibbaaGreatDoor
end
section
namespace Go.Proofs.YtahjjcmeocibbaaGreatDoor
open Go.RowKit Go.Own
namespace Lg
open Go.LogM Byt
end Lg
end Go.Proofs.YtahjjcmeocibbaaGreatDoor
end
section
namespace Go.Proofs.YtahjjcmeocibbaaGreatDoor
open Go.RowKit Go.Own
namespace Fla
open Go.FlaM Byt
theorem nowR_cons (a : FlaM.Act) (r : List FlaM.Act) (i k : Nat) : nowR (a :: r) i k = if a.seg = i /\ a.page = (k : Int) then some a.b else if a.seg = i /\ a.page < 0 then some FlaM.blank else nowR r i k := rfl
theorem nowR_app (i k : Nat) (B : List FlaM.Act) : ∀ (A : List FlaM.Act), nowR (A ++ B) i k = (match nowR A i k with | some b => some b | none => nowR B i k)
 | [] => rfl
 | a :: A => by
  rw [List.cons_append, nowR_cons, nowR_cons]
  by_cases h1 : a.seg = i /\ a.page = (k : Int)
  · rw [if_pos h1, if_pos h1]
  · rw [if_neg h1, if_neg h1]
    by_cases h2 : a.seg = i /\ a.page < 0
    · rw [if_pos h2, if_pos h2]
    · rw [if_neg h2, if_neg h2, nowR_app i k B A]
def oneAt (a : FlaM.Act) (i k : Nat) (d : Bs) : Bs := if a.seg = i /\ a.page = (k : Int) then a.b else if a.seg = i /\ a.page < 0 then FlaM.blank else d
theorem nowR_one (a : FlaM.Act) (i k : Nat) (d : Bs) : (nowR [a] i k).getD d = oneAt a i k d := by
 unfold oneAt
 simp only [nowR]
 by_cases h1 : a.seg = i /\ a.page = (k : Int)
 · rw [if_pos h1, if_pos h1]; rfl
 · rw [if_neg h1, if_neg h1]
   by_cases h2 : a.seg = i /\ a.page < 0
   · rw [if_pos h2, if_pos h2]; rfl
   · rw [if_neg h2, if_neg h2]; rfl
theorem doOne_at {safe : List (List Bs)} {n pp : Nat} (h : Shape safe n pp) (hpp : pp <= 64) (a : FlaM.Act) (ha : a.seg < n /\ ((0 <= a.page /\ a.page < (pp : Int) /\ a.b.length = 128) \/ (a.page = -1 /\ a.b = []))) (i k : Nat) (hi : i < n) (hk : k < pp) :
 pageAt (doOne pp safe a 128) i k = oneAt a i k (pageAt safe i k) := by
 unfold doOne oneAt
 rcases ha.2 with ⟨h1, h2, h3⟩ | ⟨h1, h3⟩
 · rw [if_pos h1]
   have hp : (pageAt safe a.seg a.page.toNat).length = 128 := h.pages _ _ ha.1 (by omega)
   have e : a.b.take (min (128 : Int).toNat 128) ++ (pageAt safe a.seg a.page.toNat).drop (min (128 : Int).toNat 128) = a.b := by
    rw [show min (128 : Int).toNat 128 = 128 from rfl, List.take_of_length_le (by omega), List.drop_of_length_le (by omega), List.append_nil]
   rw [e, setPage_at _ _ _ _ _ _ (by rw [h.len]; exact ha.1) (by rw [h.rows _ ha.1]; omega)]
   by_cases hc : a.seg = i /\ a.page.toNat = k
   · rw [if_pos hc, if_pos ⟨hc.1, by have := hc.2; omega⟩]
   · rw [if_neg hc, if_neg (fun e => hc ⟨e.1, by have := e.2; omega⟩), if_neg (fun e => by have := e.2; omega)]
 · rw [if_neg (by omega), show min (128 : Int).toNat pp = pp from by show min 128 pp = pp; omega, clearTo_at _ _ _ _ _ (by rw [h.len]; exact ha.1) (by rw [h.rows _ ha.1]; exact Nat.le_refl _)]
   by_cases hc : a.seg = i
   · rw [if_pos ⟨hc, hk⟩, if_neg (fun e => by have := e.2; omega), if_pos ⟨hc, by omega⟩]
   · rw [if_neg (fun e => hc e.1), if_neg (fun e => hc e.1), if_neg (fun e => hc e.1)]
theorem doAll_at {n pp : Nat} (hpp : pp <= 64) (fates : List Int) (i k : Nat) (hi : i < n) (hk : k < pp) : ∀ (L : List FlaM.Act) (safe : List (List Bs)) (m : Nat), Shape safe n pp -> (∀ a ∈ L, a.seg < n /\ ((0 <= a.page /\ a.page < (pp : Int) /\ a.b.length = 128) \/ (a.page = -1 /\ a.b = []))) -> (∀ j, j < L.length -> fates.getD (m + j) 0 = 128) ->
 pageAt (doAll pp fates safe m L) i k = (nowR L.reverse i k).getD (pageAt safe i k)
 | [], _, _, _, _, _ => rfl
 | a :: L, safe, m, h, ha, hf => by
  have h0 : fates.getD m 0 = 128 := hf 0 (Nat.zero_lt_succ _)
  show pageAt (doAll pp fates (doOne pp safe a (fates.getD m 0)) (m + 1) L) i k = _
  rw [h0, doAll_at hpp fates i k hi hk L _ (m + 1) (shape_one h a (ha a (List.mem_cons_self ..)) _) (fun x hx => ha x (List.mem_cons_of_mem _ hx)) (fun j hj => by have := hf (j + 1) (Nat.succ_lt_succ hj); rw [show m + 1 + j = m + (j + 1) from by omega]; exact this),
   doOne_at h hpp a (ha a (List.mem_cons_self ..)) i k hi hk, List.reverse_cons, nowR_app]
  cases hx : nowR L.reverse i k with
  | some b => rfl
  | none =>
   show oneAt a i k _ = (nowR [a] i k).getD _
   rw [nowR_one]
end Fla
end Go.Proofs.YtahjjcmeocibbaaGreatDoor
end
section
namespace Go.FlaM
def nowG (pp : Nat) (safe : List (List Bs)) (L : List Act) : List (List Bs) := L.foldl (fun g a => doOne pp g a 128) safe
theorem nowG_snoc (pp : Nat) (safe : List (List Bs)) (L : List Act) (a : Act) : nowG pp safe (L ++ [a]) = doOne pp (nowG pp safe L) a 128 := by simp [nowG, List.foldl_append]
def ActOk (n pp : Nat) (a : Act) : Prop := a.seg < n /\ ((0 <= a.page /\ a.page < (pp : Int) /\ a.b.length = 128) \/ (a.page = -1 /\ a.b = []))
theorem nowG_shape {n pp : Nat} : ∀ (L : List Act) (safe : List (List Bs)), Shape safe n pp -> (∀ a ∈ L, ActOk n pp a) -> Shape (nowG pp safe L) n pp
 | [], _, h, _ => h
 | a :: L, safe, h, ha => nowG_shape L _ (shape_one h a (ha a (List.mem_cons_self ..)) 128) (fun x hx => ha x (List.mem_cons_of_mem _ hx))
def doAllF (pp : Nat) (φ : Nat -> Int) : List (List Bs) -> Nat -> List Act -> List (List Bs)
 | safe, _, [] => safe
 | safe, i, a :: r => doAllF pp φ (doOne pp safe a (φ i)) (i + 1) r
theorem doAll_F (pp : Nat) (fates : List Int) : ∀ (L : List Act) (safe : List (List Bs)) (i : Nat), doAll pp fates safe i L = doAllF pp (fun i => fates.getD i 0) safe i L
 | [], _, _ => rfl
 | _ :: L, _, i => doAll_F pp fates L _ (i + 1)
theorem doOne_big {pp : Nat} (hpp : pp <= 64) (safe : List (List Bs)) (a : Act) (e e' : Int) (h : 128 <= e) (h' : 128 <= e') : doOne pp safe a e = doOne pp safe a e' := by
 unfold doOne
 rw [show min e.toNat 128 = min e'.toNat 128 by omega, show min e.toNat pp = min e'.toNat pp by omega]
theorem doAllF_big {pp : Nat} (hpp : pp <= 64) (φ : Nat -> Int) (hφ : ∀ i, 128 <= φ i) : ∀ (L : List Act) (safe : List (List Bs)) (i : Nat), doAllF pp φ safe i L = nowG pp safe L
 | [], _, _ => rfl
 | a :: L, safe, i => by
  show doAllF pp φ (doOne pp safe a (φ i)) (i + 1) L = nowG pp (doOne pp safe a 128) L
  rw [doOne_big hpp safe a (φ i) 128 (hφ i) (by omega)]
  exact doAllF_big hpp φ hφ L _ (i + 1)
theorem doAll_whole {pp : Nat} (fates : List Int) : ∀ (L : List Act) (safe : List (List Bs)) (i : Nat), (∀ j, j < L.length -> fates.getD (i + j) 0 = 128) -> doAll pp fates safe i L = nowG pp safe L
 | [], _, _, _ => rfl
 | a :: L, safe, i, h => by
  show doAll pp fates (doOne pp safe a (fates.getD i 0)) (i + 1) L = nowG pp (doOne pp safe a 128) L
  have h0 : fates.getD i 0 = 128 := h 0 (Nat.zero_lt_succ _)
  rw [h0]
  exact doAll_whole fates L _ (i + 1) (fun j hj => by have := h (j + 1) (Nat.succ_lt_succ hj); rw [show i + 1 + j = i + (j + 1) by omega]; exact this)
theorem doAllF_step (pp : Nat) (φ : Nat -> Int) (L : List Act) (g : List (List Bs)) (i : Nat) (a : Act) (h : L[i]? = some a) : doAllF pp φ g i (L.drop i) = doAllF pp φ (doOne pp g a (φ i)) (i + 1) (L.drop (i + 1)) := by
 obtain ⟨hl, rfl⟩ := List.getElem?_eq_some_iff.1 h
 rw [List.drop_eq_getElem_cons hl]
 rfl
def Wide (row : List Bs) : Prop := ∀ x ∈ row, x.length = 128
theorem flat_len : ∀ {row : List Bs}, Wide row -> row.flatten.length = row.length * 128
 | [], _ => rfl
 | x :: row, h => by
  rw [List.flatten_cons, List.length_append, h x (List.mem_cons_self ..), flat_len (fun y hy => h y (List.mem_cons_of_mem _ hy)), List.length_cons]
  omega
theorem flat_page : ∀ {row : List Bs} (k : Nat), Wide row -> k < row.length -> (row.flatten.drop (k * 128)).take 128 = row.getD k []
 | [], _, _, hk => by simp at hk
 | x :: row, 0, h, _ => by
  have hx := h x (List.mem_cons_self ..)
  rw [Nat.zero_mul, List.drop_zero, List.flatten_cons, <- hx, List.take_left]
  rfl
 | x :: row, k + 1, h, hk => by
  have hx := h x (List.mem_cons_self ..)
  rw [List.flatten_cons, List.drop_append, List.drop_of_length_le (by omega), List.nil_append, hx, show (k + 1) * 128 - 128 = k * 128 by omega, flat_page k (fun y hy => h y (List.mem_cons_of_mem _ hy)) (by simpa using hk)]
  rfl
theorem flat_set : ∀ {row : List Bs} (k : Nat) (b : Bs), Wide row -> k < row.length -> (row.set k b).flatten = row.flatten.take (k * 128) ++ b ++ row.flatten.drop ((k + 1) * 128)
 | [], _, _, _, hk => by simp at hk
 | x :: row, 0, b, h, _ => by
  have hx := h x (List.mem_cons_self ..)
  rw [Nat.zero_mul, List.take_zero, List.nil_append, List.set_cons_zero, List.flatten_cons, List.flatten_cons, List.drop_append, List.drop_of_length_le (by omega), List.nil_append, hx, show (0 + 1) * 128 - 128 = 0 by omega, List.drop_zero]
 | x :: row, k + 1, b, h, hk => by
  have hx := h x (List.mem_cons_self ..)
  rw [List.set_cons_succ, List.flatten_cons, List.flatten_cons, flat_set k b (fun y hy => h y (List.mem_cons_of_mem _ hy)) (by simpa using hk), List.take_append, List.drop_append, List.take_of_length_le (i := (k + 1) * 128) (l := x) (by omega), List.drop_of_length_le (i := (k + 1 + 1) * 128) (l := x) (by omega), List.nil_append, hx,
   show (k + 1) * 128 - 128 = k * 128 by omega, show (k + 1 + 1) * 128 - 128 = (k + 1) * 128 by omega]
  simp only [List.append_assoc]
theorem wide_set {row : List Bs} (h : Wide row) (k : Nat) (b : Bs) (hb : b.length = 128) : Wide (row.set k b) := fun x hx => by
 rcases List.mem_or_eq_of_mem_set hx with h1 | rfl
 · exact h x h1
 · exact hb
theorem wide_of {G : List (List Bs)} {n pp : Nat} (h : Shape G n pp) (i : Nat) (hi : i < n) : Wide (G.getD i []) := fun x hx => by
 obtain ⟨k, hk, rfl⟩ := List.getElem_of_mem hx
 have hk2 : k < pp := by rw [h.rows i hi] at hk; exact hk
 have := h.pages i k hi hk2
 unfold pageAt at this
 rw [List.getD_eq_getElem?_getD, List.getElem?_eq_getElem hk] at this
 exact this
def wipeTo (row : List Bs) : Nat -> List Bs
 | 0 => row
 | m + 1 => (wipeTo row m).set m blank
theorem wipeTo_len (row : List Bs) (m : Nat) : (wipeTo row m).length = row.length := by
 induction m with
 | zero => rfl
 | succ m ih => rw [wipeTo, List.length_set, ih]
theorem wide_wipe {row : List Bs} (h : Wide row) (m : Nat) : Wide (wipeTo row m) := by
 induction m with
 | zero => exact h
 | succ m ih => exact wide_set ih m blank blank_len
theorem clear_row (G : List (List Bs)) (i m : Nat) (hi : i < G.length) : clearTo G i m = G.set i (wipeTo (G.getD i []) m) := by
 induction m with
 | zero =>
  show G = G.set i (G.getD i [])
  rw [List.getD_eq_getElem?_getD, List.getElem?_eq_getElem hi]
  exact (List.set_getElem_self hi).symm
 | succ m ih =>
  show setPage (clearTo G i m) i m blank = G.set i ((wipeTo (G.getD i []) m).set m blank)
  rw [ih]
  unfold setPage
  rw [getD_set_self _ _ _ _ hi, List.set_set]
end Go.FlaM
namespace Go.Proofs.YtahjjcmeocibbaaGreatDoor
open Go.RowKit Go.Own
namespace Fla
open Go.FlaM Byt
theorem nowG_at {s : FS} {N : Nat} (ok : Ok s N) (i k : Nat) (hi : i < s.safe.length) (hk : k < s.pp) : pageAt (nowG s.pp s.safe s.L) i k = now s i k := by
 have h := doAll_at (n := s.safe.length) ok.pp.2 (List.replicate s.L.length 128) i k hi hk s.L s.safe 0 ok.shape ok.acts (fun j hj => by rw [Nat.zero_add]; simp [List.getD, hj])
 rw [doAll_whole _ _ _ 0 (fun j hj => by rw [Nat.zero_add]; simp [List.getD, hj])] at h
 exact h
end Fla
end Go.Proofs.YtahjjcmeocibbaaGreatDoor
end
section
namespace Go.Own
open Go.RowKit Go.FlaM
section
variable {t e : TypeId}
def pRow (e : TypeId) (r : Option Addr × Nat) (row : List Bs) : Asn := ARow e 128 (gsl r row.length) row.length (row.flatten.map byteV)
def pParts (t e : TypeId) (v : Value) (rs : List (Option Addr × Nat)) (rows : List (List Bs)) : List Asn := gOuter t v rs rows :: List.zipWith (pRow e) rs rows
def PGrid (t e : TypeId) (v : Value) (rows : List (List Bs)) : Asn := AEx (α := { rs : List (Option Addr × Nat) // rs.length = rows.length }) fun rs => AJoin (pParts t e v rs.1 rows)
variable {B : Nat} {w0 w w' : World} {Ps Qs : List Asn} {v : Value} {rows : List (List Bs)}
theorem St.pOpen (h : St B w0 w (PGrid t e v rows :: Ps)) : ∃ rs, rs.length = rows.length /\ St B w0 w (pParts t e v rs rows ++ Ps) := by
 obtain ⟨⟨rs, hl⟩, h⟩ := h.openE
 exact ⟨rs, hl, h.openJ⟩
theorem St.pClose {rs : List (Option Addr × Nat)} (hl : rs.length = rows.length) (h : St B w0 w (pParts t e v rs rows ++ Ps)) : St B w0 w (PGrid t e v rows :: Ps) :=
 St.closeE (α := { rs : List (Option Addr × Nat) // rs.length = rows.length }) (P := fun rs => AJoin (pParts t e v rs.1 rows)) ⟨rs, hl⟩ h.closeJ
theorem St.pRowAt (H : St B w0 w (PGrid t e v rows :: Ps)) (i : Nat) (row : List Bs) (hi : rows[i]? = some row) :
 ∃ (g c : Nat) (r : Option Addr × Nat) (Qs : List Asn), v = .slice (some ⟨g, 0, none⟩) rows.length c /\ w.cell? ⟨g, i, none⟩ = some (gsl r row.length) /\ St B w0 w (pRow e r row :: Qs) /\
  ∀ (w' : World) (row' : List Bs), row'.length = row.length -> St B w0 w' (pRow e r row' :: Qs) -> St B w0 w' (PGrid t e v (rows.set i row') :: Ps) := by
 obtain ⟨rs, hl, h⟩ := H.pOpen
 have hil := (List.getElem?_eq_some_iff.1 hi).1
 have hr : rs[i]? = some rs[i] := List.getElem?_eq_getElem (by omega)
 have h0 : (pParts t e v rs rows ++ Ps)[0]? = some (gOuter t v rs rows) := rfl
 obtain ⟨ao0, c, rfl⟩ := h.rowForm 0 h0
 obtain ⟨g, rfl, ⟨u, hu, hc⟩, _, _⟩ := h.rowAt 0 h0 i (by omega)
 rw [zip_at _ _ _ _ _ _ hr hi] at hu
 cases hu
 have hz := zip_at (pRow e) rs rows i _ _ hr hi
 have hzl := (List.getElem?_eq_some_iff.1 hz).1
 have h1 : (pParts t e (.slice (some ⟨g, 0, none⟩) rows.length c) rs rows ++ Ps)[i + 1]? = some (pRow e rs[i] row) := by
  unfold pParts
  rw [List.cons_append, List.getElem?_cons_succ, List.getElem?_append_left hzl]
  exact hz
 refine ⟨g, c, rs[i], _, rfl, hc, h.front (i + 1) h1, fun w' row' hlen h' => ?_⟩
 refine St.pClose (rs := rs) (by rw [List.length_set]; exact hl) ?_
 have h2 := h'.back (i + 1) (List.getElem?_eq_some_iff.1 h1).1
 have e1 : (pParts t e (.slice (some ⟨g, 0, none⟩) rows.length c) rs rows ++ Ps).set (i + 1) (pRow e rs[i] row') = pParts t e (.slice (some ⟨g, 0, none⟩) rows.length c) rs (rows.set i row') ++ Ps := by
  unfold pParts
  rw [List.cons_append, List.set_cons_succ, List.set_append_left _ _ hzl, zip_set _ _ _ _ _ _ hr, List.cons_append]
  congr 1
  unfold gOuter
  rw [List.length_set, zip_same (fun r row => gsl r row.length) (fun r row => gsl r row.length) rs rows i row row' hi (fun r => by rw [hlen])]
 rw [<- e1]
 exact h2
theorem perm_put {α : Type _} (Z : List α) (Ps : List α) (i : Nat) (x y : α) (h : Z[i]? = some y) : (Z ++ x :: Ps).Perm (y :: (Z.set i x ++ Ps)) := by
 obtain ⟨hl, rfl⟩ := List.getElem?_eq_some_iff.1 h
 have p1 : (Z ++ x :: Ps).Perm (x :: (Z ++ Ps)) := List.perm_middle
 have p2 : (Z[i] :: Z.eraseIdx i).Perm Z := erase_perm Z i hl
 have hl2 : i < (Z.set i x).length := by simpa using hl
 have p3 := erase_perm (Z.set i x) i hl2
 rw [List.getElem_set_self, List.eraseIdx_set_eq] at p3
 refine p1.trans ?_
 refine ((p2.symm.append_right Ps).cons x).trans ?_
 refine (List.Perm.swap Z[i] x _).trans ?_
 exact (p3.append_right Ps).cons _
theorem St.pPut {r : Option Addr × Nat} {row' : List Bs} (H : St B w0 w (PGrid t e v rows :: pRow e r row' :: Ps)) (i : Nat) (hi : i < rows.length) :
 ∃ (g c : Nat), v = .slice (some ⟨g, 0, none⟩) rows.length c /\ (∃ u, w.cell? ⟨g, i, none⟩ = some u) /\ w.frozen? ⟨g, i, none⟩ = false /\ St B w0 (w.setCell ⟨g, i, none⟩ (gsl r row'.length)) (PGrid t e v (rows.set i row') :: Ps) := by
 obtain ⟨rs, hl, h⟩ := H.pOpen
 have hr : rs[i]? = some rs[i] := List.getElem?_eq_getElem (by omega)
 have hi2 : rows[i]? = some rows[i] := List.getElem?_eq_getElem hi
 have h0 : (pParts t e v rs rows ++ pRow e r row' :: Ps)[0]? = some (gOuter t v rs rows) := rfl
 obtain ⟨ao0, c, rfl⟩ := h.rowForm 0 h0
 obtain ⟨g, rfl, ⟨u, hu, hc⟩, hf, put⟩ := h.rowAt 0 h0 i (by omega)
 refine ⟨g, c, rfl, ⟨u, hc⟩, hf, ?_⟩
 have hp := put (gsl r row'.length)
 unfold pParts at hp
 rw [List.cons_append, List.set_cons_zero] at hp
 have hz := zip_at (pRow e) rs rows i _ _ hr hi2
 have h2 := (hp.perm ((perm_put _ Ps i (pRow e r row') _ hz).cons _)).drop2
 refine St.pClose (rs := rs.set i r) (by rw [List.length_set, List.length_set]; exact hl) ?_
 have e1 : pParts t e (.slice (some ⟨g, 0, none⟩) rows.length c) (rs.set i r) (rows.set i row') = gOuter t (.slice (some ⟨g, 0, none⟩) rows.length c) (rs.set i r) (rows.set i row') :: (List.zipWith (pRow e) rs rows).set i (pRow e r row') := by
  unfold pParts
  congr 1
  apply List.ext_getElem?
  intro j
  rw [List.getElem?_zipWith]
  by_cases hj : i = j
  · subst hj
    rw [List.getElem?_set_self (by omega), List.getElem?_set_self hi, List.getElem?_set_self (by rw [List.length_zipWith]; omega)]
  · rw [List.getElem?_set_ne hj, List.getElem?_set_ne hj, List.getElem?_set_ne hj, List.getElem?_zipWith]
 have e2 : gOuter t (.slice (some ⟨g, 0, none⟩) rows.length c) (rs.set i r) (rows.set i row') = ARow t 1 (.slice (some ⟨g, 0, none⟩) rows.length c) rows.length ((List.zipWith (fun r row => gsl r row.length) rs rows).set i (gsl r row'.length)) := by
  unfold gOuter
  rw [List.length_set]
  congr 1
  apply List.ext_getElem?
  intro j
  rw [List.getElem?_zipWith]
  by_cases hj : i = j
  · subst hj
    rw [List.getElem?_set_self (by omega), List.getElem?_set_self hi, List.getElem?_set_self (by rw [List.length_zipWith]; omega)]
  · rw [List.getElem?_set_ne hj, List.getElem?_set_ne hj, List.getElem?_set_ne hj, List.getElem?_zipWith]
 rw [e1, e2, List.cons_append]
 exact h2
theorem St.freshRows {e : TypeId} {size : Nat} {Q : Asn} : ∀ (n : Nat) {Ps : List Asn}, St B w0 w (Q :: Ps) -> St B w0 w (Q :: (List.replicate n (ARow e size (.slice none 0 0) 0 []) ++ Ps))
 | 0, _, h => h
 | n + 1, _, h => by
  rw [List.replicate_succ, List.cons_append]
  exact (St.freshRows n h).rowFresh.swap2
theorem St.pMake {P : Program} {t2 : TypeId} {bytes : Nat} (O : One P t2 t (.slice none 0 0) bytes) (H : St B w0 w Ps) (kl kc : IntKind) (n : Nat) (hn : n <= 100000000) (b2 : bytes <= 1000) :
 ∃ w' g, (Instr.makeSlice t2 (.int kl (n : Int)) (.int kc (n : Int))).run P w = .ok (.slice (some ⟨g, 0, none⟩) n n) w' /\ St B w0 w' (PGrid t e (.slice (some ⟨g, 0, none⟩) n n) (List.replicate n []) :: Ps) := by
 obtain ⟨w', g, hr, h⟩ := St.oneMake O H kl kc n hn b2 rfl
 refine ⟨w', g, hr, St.pClose (rs := List.replicate n (none, 0)) (by simp) ?_⟩
 have h2 := St.freshRows (e := e) (size := 128) n h
 have e1 : pParts t e (.slice (some ⟨g, 0, none⟩) n n) (List.replicate n (none, 0)) (List.replicate n []) = ARow t 1 (.slice (some ⟨g, 0, none⟩) n n) n (List.replicate n (.slice none 0 0)) :: List.replicate n (ARow e 128 (.slice none 0 0) 0 []) := by
  unfold pParts gOuter
  rw [List.zipWith_replicate, List.zipWith_replicate, List.length_replicate, Nat.min_self]
  rfl
 rw [e1, List.cons_append]
 exact h2
end
end Go.Own
end
section
namespace Go.Own
open Go.RowKit Go.FlaM
section
variable {B : Nat} {w0 w : World} {Ps : List Asn} {t e : TypeId}
variable {v : Value} {rows : List (List Bs)}
theorem St.pRowAtX (H : St B w0 w (PGrid t e v rows :: Ps)) (i : Nat) (row : List Bs) (hi : rows[i]? = some row) :
 ∃ (g c : Nat) (r : Option Addr × Nat) (Qs : List Asn), v = .slice (some ⟨g, 0, none⟩) rows.length c /\ w.cell? ⟨g, i, none⟩ = some (gsl r row.length) /\ St B w0 w (pRow e r row :: Qs) /\
  ∀ (w' : World) (row' : List Bs) (Xs : List Asn), row'.length = row.length -> St B w0 w' (Xs ++ pRow e r row' :: Qs) -> St B w0 w' (Xs ++ PGrid t e v (rows.set i row') :: Ps) := by
 obtain ⟨rs, hl, h⟩ := H.pOpen
 have hil := (List.getElem?_eq_some_iff.1 hi).1
 have hr : rs[i]? = some rs[i] := List.getElem?_eq_getElem (by omega)
 have h0 : (pParts t e v rs rows ++ Ps)[0]? = some (gOuter t v rs rows) := rfl
 obtain ⟨ao0, c, rfl⟩ := h.rowForm 0 h0
 obtain ⟨g, rfl, ⟨u, hu, hc⟩, _, _⟩ := h.rowAt 0 h0 i (by omega)
 rw [zip_at _ _ _ _ _ _ hr hi] at hu
 cases hu
 have hz := zip_at (pRow e) rs rows i _ _ hr hi
 have hzl := (List.getElem?_eq_some_iff.1 hz).1
 have h1 : (pParts t e (.slice (some ⟨g, 0, none⟩) rows.length c) rs rows ++ Ps)[i + 1]? = some (pRow e rs[i] row) := by
  unfold pParts
  rw [List.cons_append, List.getElem?_cons_succ, List.getElem?_append_left hzl]
  exact hz
 refine ⟨g, c, rs[i], _, rfl, hc, h.front (i + 1) h1, fun w' row' Xs hlen h' => ?_⟩
 have hlt := (List.getElem?_eq_some_iff.1 h1).1
 have e1 : (pParts t e (.slice (some ⟨g, 0, none⟩) rows.length c) rs rows ++ Ps).set (i + 1) (pRow e rs[i] row') = pParts t e (.slice (some ⟨g, 0, none⟩) rows.length c) rs (rows.set i row') ++ Ps := by
  unfold pParts
  rw [List.cons_append, List.set_cons_succ, List.set_append_left _ _ hzl, zip_set _ _ _ _ _ _ hr, List.cons_append]
  congr 1
  unfold gOuter
  rw [List.length_set, zip_same (fun r row => gsl r row.length) (fun r row => gsl r row.length) rs rows i row row' hi (fun r => by rw [hlen])]
 have p1 := erase_perm ((pParts t e (.slice (some ⟨g, 0, none⟩) rows.length c) rs rows ++ Ps).set (i + 1) (pRow e rs[i] row')) (i + 1) (by simpa using hlt)
 rw [List.getElem_set_self, List.eraseIdx_set_eq, e1] at p1
 have h2 := (h'.perm (p1.append_left Xs)).perm_app
 have h3 := St.pClose (rs := rs) (by rw [List.length_set]; exact hl) h2
 exact h3.perm (by
  have : (PGrid t e (.slice (some ⟨g, 0, none⟩) rows.length c) (rows.set i row') :: (Ps ++ Xs)).Perm (Xs ++ (PGrid t e (.slice (some ⟨g, 0, none⟩) rows.length c) (rows.set i row') :: Ps)) := by
   rw [<- List.cons_append]; exact List.perm_append_comm
  exact this)
end
end Go.Own
end
section
namespace Go.Own
open Go.RowKit
def updL (L : Nat -> Bool) (i : Nat) : Nat -> Bool := fun j => if j = i then true else L j
section
variable {P : Program} {ops : Array Oper} {md : Region.Mode} {CL : (Nat -> Bool) -> World -> Prop}
structure Comes (ops : Array Oper) (md : Region.Mode) (i : Nat) (o : Oper) (L : Nat -> Bool) : Prop where
 not : L i = false
 closed : ∀ (j : Nat) (oj : Oper), ops[j]? = some oj -> L j = true -> ∀ e ∈ oj.after, Region.binds md e = true -> L e.on = true
 ready : ∀ e ∈ o.after, Region.binds md e = true -> L e.on = true
inductive StepG (P : Program) (ops : Array Oper) (md : Region.Mode) (CL : (Nat -> Bool) -> World -> Prop) (i : Nat) (o : Oper) (a : Act) : Act -> Prop
 | skip (hw : Region.wanted o (yielded ops a.tmps) = false) (hq : ∀ L w, CL L w -> Comes ops md i o L -> CL (updL L i) w) : StepG P ops md CL i o a (a.put o.dst undef)
 | val (v : Value) (hw : Region.wanted o (yielded ops a.tmps) = true)
  (h : ∀ L a1 w, CL L w -> Comes ops md i o L -> (∀ t ∈ o.looksAt ops, a1.tmps.getD t undef = a.tmps.getD t undef) -> ∀ (K : Act -> World -> Prop) (Q : Exit -> Act -> World -> Prop), (∀ w', CL (updL L i) w' -> K (a1.put o.dst v) w') -> o.wp P a1 w K Q) : StepG P ops md CL i o a (a.put o.dst v)
structure InvG (md : Region.Mode) (ops : Array Oper) (CL : (Nat -> Bool) -> World -> Prop) (a0 : Act) (S : Nat -> Act) (listed : Array Bool) (a1 : Act) (w1 : World) : Prop where
 world : CL (fun j => listed.getD j false) w1
 defers : a1.defers = a0.defers
 size : a1.tmps.size = a0.tmps.size
 lsize : listed.size = ops.size
 closed : ∀ (j : Nat) (oj : Oper), ops[j]? = some oj -> listed.getD j false = true -> ∀ e ∈ oj.after, Region.binds md e = true -> listed.getD e.on false = true
 done : ∀ (j : Nat) (oj : Oper) (d : Tmp), ops[j]? = some oj -> listed.getD j false = true -> oj.dst = some d -> a1.tmps.getD d undef = (S (j + 1)).tmps.getD d undef
 rest : ∀ t, (∀ (j : Nat) (oj : Oper), ops[j]? = some oj -> listed.getD j false = true -> oj.dst ≠ some t) -> a1.tmps.getD t undef = a0.tmps.getD t undef
theorem StepG.put {i : Nat} {o : Oper} {a a' : Act} (h : StepG P ops md CL i o a a') : ∃ v, a' = a.put o.dst v := by
 cases h with
 | skip => exact ⟨_, rfl⟩
 | val v => exact ⟨v, rfl⟩
theorem sizesG {a0 : Act} {S : Nat -> Act} (hS0 : S 0 = a0) (hst : ∀ (k : Nat) (o : Oper), ops[k]? = some o -> StepG P ops md CL k o (S k) (S (k + 1))) :
 ∀ k, k <= ops.size -> (S k).tmps.size = a0.tmps.size /\ (S k).defers = a0.defers
 | 0, _ => by rw [hS0]; exact ⟨rfl, rfl⟩
 | k + 1, hk => by
  have h := sizesG hS0 hst k (by omega)
  obtain ⟨v, g⟩ := (hst k ops[k] (Array.getElem?_eq_getElem (by omega))).put
  rw [g]
  exact ⟨(put_size _ _ _).trans h.1, (put_defers _ _ _).trans h.2⟩
theorem otherG {a0 : Act} {S : Nat -> Act} (hS0 : S 0 = a0) (hst : ∀ (k : Nat) (o : Oper), ops[k]? = some o -> StepG P ops md CL k o (S k) (S (k + 1)))
 (hin : ∀ (k : Nat) (o : Oper) (d : Tmp), ops[k]? = some o -> o.dst = some d -> d < a0.tmps.size) {t : Tmp} (m : Nat) :
 ∀ q, m + q <= ops.size -> (∀ j oj, m <= j -> j < m + q -> ops[j]? = some oj -> oj.dst ≠ some t) -> (S (m + q)).tmps.getD t undef = (S m).tmps.getD t undef
 | 0, _, _ => rfl
 | q + 1, hq, hno => by
  have ih := otherG hS0 hst hin (t := t) m q (by omega) (fun j oj h1 h2 => hno j oj h1 (by omega))
  have hk : ops[m + q]? = some ops[m + q] := Array.getElem?_eq_getElem (by omega)
  have hs := sizesG hS0 hst (m + q) (by omega)
  obtain ⟨v, g⟩ := (hst (m + q) _ hk).put
  refine Eq.trans ?_ ih
  show (S (m + q + 1)).tmps.getD t undef = _
  rw [g]
  have hd := hno (m + q) _ (by omega) (by omega) hk
  cases hdd : (ops[m + q]).dst with
  | none => rfl
  | some d => rw [put_getD _ d t v (by rw [hs.1]; exact hin _ _ d hk hdd), if_neg (fun e => hd (by rw [hdd, e]))]
theorem wpAny_G {Q' : Exit -> Act -> World -> Prop} {a0 : Act} {S : Nat -> Act} (hS0 : S 0 = a0)
 (hst : ∀ (k : Nat) (o : Oper), ops[k]? = some o -> StepG P ops md CL k o (S k) (S (k + 1)))
 (hin : ∀ (k : Nat) (o : Oper) (d : Tmp), ops[k]? = some o -> o.dst = some d -> d < a0.tmps.size)
 (hone : ∀ (j k : Nat) (x y : Oper) (d : Tmp), ops[j]? = some x -> ops[k]? = some y -> x.dst = some d -> y.dst = some d -> j = k)
 (hlex : ∀ (i : Nat) (oi : Oper), ops[i]? = some oi -> (∀ e ∈ oi.after, Region.binds md e = true -> e.on < i) /\ ∀ j oj, i < j -> ops[j]? = some oj -> (∃ e ∈ oj.after, Region.binds md e = true /\ e.on = i) \/ oi.apart ops oj = true)
 (hfin : ∀ (a1 : Act) (w1 : World) (L : Nat -> Bool), CL L w1 -> (∀ i, i < ops.size -> L i = true) -> a1 = S ops.size -> Q' .normal a1 w1) :
 ∀ (fuel : Nat) (listed : Array Bool) (a1 : Act) (w1 : World), (∃ s, (List.range ops.size).filter (fun i => !listed.getD i true) = s /\ s.length = fuel) -> InvG md ops CL a0 S listed a1 w1 -> wpAny P md ops Q' fuel listed a1 w1 := by
 have hready : ∀ listed : Array Bool, listed.size = ops.size -> Region.ready md ops listed = [] -> ∀ i, i < ops.size -> listed.getD i true = true := by
  intro listed hls hr i
  induction i using Nat.strongRecOn with
  | _ i ih =>
   intro hi
   rcases hb : listed.getD i true with _ | _
   · exfalso
     have : i ∈ Region.ready md ops listed := by
      refine mem_ready.2 ⟨hb, ops[i], Array.getElem?_eq_getElem hi, fun e he hbd => ?_⟩
      have h1 := (hlex i _ (Array.getElem?_eq_getElem hi)).1 e he hbd
      have h2 := ih e.on h1 (by omega)
      have h3 : e.on < listed.size := by omega
      simpa [h3] using h2
     rw [hr] at this
     cases this
   · rfl
 have hend : ∀ (fuel : Nat) (listed : Array Bool) (a1 : Act) (w1 : World), InvG md ops CL a0 S listed a1 w1 -> (∀ i, i < ops.size -> listed.getD i true = true) -> wpAny P md ops Q' fuel listed a1 w1 := by
  intro fuel listed a1 w1 hI hall
  have hsz := sizesG hS0 hst ops.size (Nat.le_refl _)
  have hallf : ∀ i, i < ops.size -> listed.getD i false = true := by
   intro i hi
   have h1 := hall i hi
   have h2 : i < listed.size := by rw [hI.lsize]; exact hi
   simpa [h2] using h1
  have hnr : Region.ready md ops listed = [] := by
   apply List.eq_nil_iff_forall_not_mem.2
   intro i hi
   obtain ⟨h0, o, ho, _⟩ := mem_ready.1 hi
   have := hall i (Array.getElem?_eq_some_iff.1 ho).1
   rw [this] at h0; cases h0
  refine wpAny_done hnr (hfin a1 w1 _ hI.world hallf ?_) fuel
  have hslot : ∀ t, a1.tmps.getD t undef = (S ops.size).tmps.getD t undef := by
   intro t
   by_cases hw : ∃ (j : Nat) (oj : Oper), ops[j]? = some oj /\ oj.dst = some t
   · obtain ⟨j, oj, hj, hd⟩ := hw
     have hjl := (Array.getElem?_eq_some_iff.1 hj).1
     have h1 := hI.done j oj t hj (hallf j hjl) hd
     have h2 := otherG hS0 hst hin (t := t) (j + 1) (ops.size - (j + 1)) (by omega) (fun i oi h1 h2 hi hdi => by
      have := hone i j oi oj t hi hj hdi hd; omega)
     rw [show j + 1 + (ops.size - (j + 1)) = ops.size by omega] at h2
     exact h1.trans h2.symm
   · have h1 := hI.rest t (fun j oj hj hl hd => hw ⟨j, oj, hj, hd⟩)
     have h2 := otherG hS0 hst hin (t := t) 0 ops.size (by omega) (fun j oj _ h2 hj hd => hw ⟨j, oj, hj, hd⟩)
     rw [Nat.zero_add, hS0] at h2
     exact h1.trans h2.symm
  have hts : a1.tmps = (S ops.size).tmps := by
   apply Array.ext
   · rw [hI.size, hsz.1]
   · intro i h1 h2
     have := hslot i
     simpa [Array.getD, h1, h2] using this
  have hds : a1.defers = (S ops.size).defers := hI.defers.trans hsz.2.symm
  cases a1
  cases hS : S ops.size
  rw [hS] at hts hds
  simp only at hts hds
  subst hts hds
  rfl
 intro fuel
 induction fuel with
 | zero =>
  rintro listed a1 w1 ⟨s, hs, hlen⟩ hI
  refine hend 0 listed a1 w1 hI (fun i hi => ?_)
  have hnil : s = [] := List.eq_nil_of_length_eq_zero hlen
  subst hnil
  have := List.filter_eq_nil_iff.1 hs i (List.mem_range.2 (by omega))
  simpa using this
 | succ fuel ih =>
  rintro listed a1 w1 ⟨s, hs, hlen⟩ hI
  by_cases hdone : ∀ i, i < ops.size -> listed.getD i true = true
  · exact hend (fuel + 1) listed a1 w1 hI hdone
  refine ⟨fun h0 => absurd (fun i hi => hready listed hI.lsize h0 i (by omega)) hdone, fun i hi => ?_⟩
  obtain ⟨hun, oi, hoi, hall⟩ := mem_ready.1 hi
  have hil := (Array.getElem?_eq_some_iff.1 hoi).1
  have hill : i < listed.size := by rw [hI.lsize]; exact hil
  have hunf : listed.getD i false = false := by simpa [hill] using hun
  have hcount : ∃ s', (List.range ops.size).filter (fun j => !(listed.setIfInBounds i true).getD j true) = s' /\ s'.length = fuel := by
   refine ⟨_, rfl, ?_⟩
   have hn : (List.range ops.size).Nodup := List.nodup_range
   have e : (List.range ops.size).filter (fun j => !(listed.setIfInBounds i true).getD j true) = ((List.range ops.size).filter fun j => !listed.getD j true).erase i := by
    rw [List.Nodup.erase_eq_filter (List.Pairwise.filter _ hn), List.filter_filter]
    apply List.filter_congr
    intro j hj
    by_cases hji : j = i
    · subst hji; simp [hill]
    · rw [getD_set_ne true (Ne.symm hji)]; simp [hji]
   rw [e, List.length_erase_of_mem (List.mem_filter.2 ⟨List.mem_range.2 hil, by simp only [hun]; rfl⟩), hs, hlen]
   rfl
  have hlook : ∀ t ∈ oi.looksAt ops, a1.tmps.getD t undef = (S i).tmps.getD t undef := by
   intro t ht
   have hback : (∀ (j : Nat) (oj : Oper), ops[j]? = some oj -> oj.dst = some t -> i <= j) -> (∀ (j : Nat) (oj : Oper), ops[j]? = some oj -> oj.dst = some t -> listed.getD j false = false) -> a1.tmps.getD t undef = (S i).tmps.getD t undef := by
    intro h1 h2
    have h3 := otherG hS0 hst hin (t := t) 0 i (by omega) (fun j oj _ hj ho hd => by have := h1 j oj ho hd; omega)
    rw [Nat.zero_add, hS0] at h3
    refine Eq.trans (hI.rest t (fun j oj hj hl hd => ?_)) h3.symm
    rw [h2 j oj hj hd] at hl; cases hl
   by_cases hw : ∃ (j : Nat) (oj : Oper), ops[j]? = some oj /\ oj.dst = some t
   · obtain ⟨j, oj, hj, hd⟩ := hw
     have huniq : ∀ (j' : Nat) (oj' : Oper), ops[j']? = some oj' -> oj'.dst = some t -> j' = j := fun j' oj' h1 h2 => hone j' j oj' oj t h1 hj h2 hd
     rcases Nat.lt_trichotomy j i with hji | hji | hji
     · rcases (hlex j oj hj).2 i oi hji hoi with ⟨e, he, hb, heq⟩ | hap
       · have hl : listed.getD j false = true := by rw [<- heq]; exact hall e he hb
         have h1 := hI.done j oj t hj hl hd
         have h2 := otherG hS0 hst hin (t := t) (j + 1) (i - (j + 1)) (by omega) (fun j' oj' h1 _ h3 h4 => by have := huniq j' oj' h3 h4; omega)
         rw [show j + 1 + (i - (j + 1)) = i by omega] at h2
         exact h1.trans h2.symm
       · exact absurd ht ((Oper.apart_spec hap).1 t hd)
     · subst hji
       refine hback (fun j' oj' h1 h2 => by have := huniq j' oj' h1 h2; omega) (fun j' oj' h1 h2 => by rw [huniq j' oj' h1 h2]; exact hunf)
     · rcases (hlex i oi hoi).2 j oj hji hj with ⟨e, he, hb, heq⟩ | hap
       · refine hback (fun j' oj' h1 h2 => by have := huniq j' oj' h1 h2; omega) (fun j' oj' h1 h2 => ?_)
         rw [huniq j' oj' h1 h2]
         rcases hlj : listed.getD j false with _ | _
         · rfl
         · have := hI.closed j oj hj hlj e he hb
           rw [heq, hunf] at this; cases this
       · exact absurd ht ((Oper.apart_spec hap).2.2 t hd)
   · exact hback (fun j oj h1 h2 => absurd ⟨j, oj, h1, h2⟩ hw) (fun j oj h1 h2 => absurd ⟨j, oj, h1, h2⟩ hw)
  have hsz := sizesG hS0 hst i (by omega)
  have hsame : a1.tmps.size = (S i).tmps.size := hI.size.trans hsz.1.symm
  have hupd : (fun j => (listed.setIfInBounds i true).getD j false) = updL (fun j => listed.getD j false) i := by
   funext j
   unfold updL
   by_cases hji : j = i
   · subst hji; simp [hill]
   · rw [getD_set_ne false (Ne.symm hji), if_neg hji]
  have hcomes : Comes ops md i oi (fun j => listed.getD j false) := ⟨hunf, hI.closed, hall⟩
  have hnext : ∀ (v : Value) (w' : World), S (i + 1) = (S i).put oi.dst v -> CL (updL (fun j => listed.getD j false) i) w' -> InvG md ops CL a0 S (listed.setIfInBounds i true) (a1.put oi.dst v) w' := by
   intro v w' hv hb
   have hget : ∀ t, oi.dst ≠ some t -> (a1.put oi.dst v).tmps.getD t undef = a1.tmps.getD t undef := by
    intro t ht
    cases hd : oi.dst with
    | none => rfl
    | some d => rw [put_getD a1 d t v (by rw [hI.size]; exact hin i oi d hoi hd), if_neg (fun e => ht (by rw [hd, e]))]
   have hlist : ∀ j, (listed.setIfInBounds i true).getD j false = true -> j = i \/ listed.getD j false = true := by
    intro j hj
    by_cases hji : j = i
    · exact .inl hji
    · rw [getD_set_ne false (Ne.symm hji)] at hj; exact .inr hj
   refine ⟨by rw [hupd]; exact hb, (put_defers _ _ _).trans hI.defers, (put_size _ _ _).trans hI.size, by simpa using hI.lsize, fun j oj hj hl e he hbd => ?_, fun j oj d hj hl hd => ?_, fun t ht => ?_⟩
   · rcases hlist j hl with rfl | hl
     · obtain rfl : oj = oi := by rw [hoi] at hj; simpa using hj.symm
       exact getD_set_true (hall e he hbd)
     · exact getD_set_true (hI.closed j oj hj hl e he hbd)
   · rcases hlist j hl with rfl | hl
     · obtain rfl : oj = oi := by rw [hoi] at hj; simpa using hj.symm
       rw [hv, hd, put_getD a1 d d v (by rw [hI.size]; exact hin j oj d hj hd), if_pos rfl, put_getD (S j) d d v (by rw [hsz.1]; exact hin j oj d hj hd), if_pos rfl]
     · have hne : oi.dst ≠ some d := by
        intro h
        have := hone i j oi oj d hoi hj h hd
        subst this
        rw [hunf] at hl; cases hl
       rw [hget d hne]
       exact hI.done j oj d hj hl hd
   · have hne : oi.dst ≠ some t := ht i oi hoi (by simp [hill])
     rw [hget t hne]
     exact hI.rest t (fun j oj hj hl => ht j oj hj (getD_set_true hl))
  have hwl : Region.wanted oi (yielded ops a1.tmps) = Region.wanted oi (yielded ops (S i).tmps) :=
   wanted_looks (I := []) (w := w1) (by unfold guardKnown; split; rfl; split <;> rfl) hsame (fun t ht => hlook t ht)
  have hstep := hst i oi hoi
  unfold wpOp
  simp only [hoi]
  generalize hSj : S (i + 1) = sj at *
  cases hstep with
  | skip hw hq =>
   rw [hwl, hw]
   simp only [Bool.false_eq_true, if_false]
   exact ih _ _ _ hcount (hnext undef w1 rfl (hq _ _ hI.world hcomes))
  | val v hw h =>
   rw [hwl, hw]
   simp only [if_true]
   exact .inl (h _ a1 w1 hI.world hcomes hlook _ _ (fun w' hu => ih _ _ _ hcount (hnext v w' rfl hu)))
end
def CLp (C : Nat -> World -> Prop) (E : List Nat) (L : Nat -> Bool) (w : World) : Prop := C (E.filter L).length w
def waitsGB (ops : Array Oper) : Nat -> Nat -> Nat -> Bool
 | 0, x, y => x == y
 | f + 1, x, y => x == y || match ops[x]? with
  | some o => o.after.any fun e => Region.binds .any e && waitsGB ops f e.on y
  | none => false
theorem waitsGB_sound {ops : Array Oper} {L : Nat -> Bool} (hcl : ∀ (j : Nat) (oj : Oper), ops[j]? = some oj -> L j = true -> ∀ e ∈ oj.after, Region.binds .any e = true -> L e.on = true) :
 ∀ (f x y : Nat), waitsGB ops f x y = true -> L x = true -> L y = true
 | 0, x, y, h, hx => by
  have : x = y := by simpa [waitsGB] using h
  rw [<- this]; exact hx
 | f + 1, x, y, h, hx => by
  unfold waitsGB at h
  rw [Bool.or_eq_true] at h
  rcases h with h | h
  · have : x = y := by simpa using h
    rw [<- this]; exact hx
  · split at h
    · rename_i o ho
      obtain ⟨e, he, hb⟩ := Array.any_eq_true'.1 h
      rw [Bool.and_eq_true] at hb
      exact waitsGB_sound hcl f e.on y hb.2 (hcl x o ho hx e he hb.1)
    · cases h
def chainB (ops : Array Oper) (E : List Nat) : Bool := decide E.Nodup && E.all (· < ops.size) && (List.range (E.length - 1)).all fun j => match ops[E.getD (j + 1) 0]? with
 | some o => o.after.any fun e => Region.binds .any e && waitsGB ops 12 e.on (E.getD j 0)
 | none => false
section
variable {P : Program} {ops : Array Oper} {C : Nat -> World -> Prop} {E : List Nat}
theorem chain_edge (hch : chainB ops E = true) (j : Nat) (hj : j + 1 < E.length) : ∃ o, ops[E.getD (j + 1) 0]? = some o /\ ∃ e ∈ o.after, Region.binds .any e = true /\ waitsGB ops 12 e.on (E.getD j 0) = true := by
 unfold chainB at hch
 simp only [Bool.and_eq_true] at hch
 have h := List.all_eq_true.1 hch.2 j (List.mem_range.2 (by omega))
 split at h
 · rename_i o ho
   obtain ⟨e, he, hb⟩ := Array.any_eq_true'.1 h
   rw [Bool.and_eq_true] at hb
   exact ⟨o, ho, e, he, hb.1, hb.2⟩
 · cases h
theorem chain_nodup (hch : chainB ops E = true) : E.Nodup := by
 unfold chainB at hch
 simp only [Bool.and_eq_true, decide_eq_true_eq] at hch
 exact hch.1.1
theorem chain_lt (hch : chainB ops E = true) : ∀ i ∈ E, i < ops.size := by
 unfold chainB at hch
 simp only [Bool.and_eq_true] at hch
 intro i hi
 simpa using List.all_eq_true.1 hch.1.2 i hi
theorem chain_down (hch : chainB ops E = true) {L : Nat -> Bool} (hcl : ∀ (j : Nat) (oj : Oper), ops[j]? = some oj -> L j = true -> ∀ e ∈ oj.after, Region.binds .any e = true -> L e.on = true) (j : Nat) :
 ∀ d, j + d < E.length -> L (E.getD (j + d) 0) = true -> L (E.getD j 0) = true
 | 0, _, h => h
 | d + 1, hl, h => by
  obtain ⟨o, ho, e, he, hb, heq⟩ := chain_edge hch (j + d) (by omega)
  have := waitsGB_sound hcl 12 _ _ heq (hcl _ o ho h e he hb)
  exact chain_down hch hcl j d (by omega) this
theorem filter_upd_not {L : Nat -> Bool} {k : Nat} (hk : E.contains k = false) : E.filter (updL L k) = E.filter L := by
 apply List.filter_congr
 intro x hx
 unfold updL
 rw [if_neg]
 rintro rfl
 have : E.contains x = true := by simpa using hx
 rw [hk] at this
 cases this
theorem getD_of {j k : Nat} (h : E[j]? = some k) : E.getD j 0 = k := by rw [List.getD_eq_getElem?_getD, h]; rfl
theorem chain_phase (hch : chainB ops E = true) {L : Nat -> Bool} {j k : Nat} {o : Oper} (hj : E[j]? = some k) (ho : ops[k]? = some o) (hc : Comes ops .any k o L) :
 (E.filter L).length = j /\ (E.filter (updL L k)).length = j + 1 := by
 have hjl := (List.getElem?_eq_some_iff.1 hj).1
 have hk := getD_of hj
 have hbef : ∀ i, i < j -> L (E.getD i 0) = true := by
  intro i hi
  obtain ⟨o', ho', e, he, hb, heq⟩ := chain_edge hch (j - 1) (by omega)
  rw [show j - 1 + 1 = j by omega, hk, ho] at ho'
  cases ho'
  have h1 := waitsGB_sound hc.closed 12 _ _ heq (hc.ready e he hb)
  have h2 := chain_down hch hc.closed i (j - 1 - i) (by omega)
  rw [show i + (j - 1 - i) = j - 1 by omega] at h2
  exact h2 h1
 have haft : ∀ i, j <= i -> i < E.length -> L (E.getD i 0) = false := by
  intro i hi hl
  rcases hb : L (E.getD i 0) with _ | _
  · rfl
  · have h2 := chain_down hch hc.closed j (i - j) (by omega)
    rw [show j + (i - j) = i by omega] at h2
    have := h2 hb
    rw [hk, hc.not] at this
    cases this
 have hmem : ∀ (l : List Nat) (x : Nat), x ∈ l -> ∃ i, i < l.length /\ l.getD i 0 = x := by
  intro l x hx
  obtain ⟨i, hi, rfl⟩ := List.mem_iff_getElem.1 hx
  exact ⟨i, hi, by rw [List.getD_eq_getElem?_getD, List.getElem?_eq_getElem hi]; rfl⟩
 have e1 : E.filter L = E.take j := by
  conv => lhs; rw [<- List.take_append_drop j E]
  rw [List.filter_append, List.filter_eq_self.2, List.filter_eq_nil_iff.2, List.append_nil]
  · intro x hx
    obtain ⟨i, hi, rfl⟩ := hmem _ x hx
    rw [List.length_drop] at hi
    have : (E.drop j).getD i 0 = E.getD (j + i) 0 := by rw [List.getD_eq_getElem?_getD, List.getD_eq_getElem?_getD, List.getElem?_drop]
    rw [this, haft (j + i) (by omega) (by omega)]
    simp
  · intro x hx
    obtain ⟨i, hi, rfl⟩ := hmem _ x hx
    rw [List.length_take] at hi
    have : (E.take j).getD i 0 = E.getD i 0 := by rw [List.getD_eq_getElem?_getD, List.getD_eq_getElem?_getD, List.getElem?_take_of_lt (by omega)]
    rw [this]
    exact hbef i (by omega)
 refine ⟨by rw [e1, List.length_take]; omega, ?_⟩
 have e2 : E.filter (updL L k) = E.take (j + 1) := by
  conv => lhs; rw [<- List.take_append_drop (j + 1) E]
  rw [List.filter_append, List.filter_eq_self.2, List.filter_eq_nil_iff.2, List.append_nil]
  · intro x hx
    obtain ⟨i, hi, rfl⟩ := hmem _ x hx
    rw [List.length_drop] at hi
    have : (E.drop (j + 1)).getD i 0 = E.getD (j + 1 + i) 0 := by rw [List.getD_eq_getElem?_getD, List.getD_eq_getElem?_getD, List.getElem?_drop]
    rw [this]
    unfold updL
    rw [if_neg, haft (j + 1 + i) (by omega) (by omega)]
    · simp
    · intro e
      have hn := chain_nodup hch
      rw [List.getD_eq_getElem?_getD, List.getElem?_eq_getElem (by omega)] at e
      have h1 : E[j + 1 + i]? = E[j]? := by rw [hj, List.getElem?_eq_getElem (by omega)]; simpa using e
      have := (List.getElem?_inj (by omega) hn).1 h1
      omega
  · intro x hx
    obtain ⟨i, hi, rfl⟩ := hmem _ x hx
    rw [List.length_take] at hi
    have : (E.take (j + 1)).getD i 0 = E.getD i 0 := by rw [List.getD_eq_getElem?_getD, List.getD_eq_getElem?_getD, List.getElem?_take_of_lt (by omega)]
    rw [this]
    unfold updL
    by_cases hij : i = j
    · rw [hij, hk, if_pos rfl]
    · split
      · rfl
      · exact hbef i (by omega)
 rw [e2, List.length_take]
 omega
def wpGA (P : Program) (ops : Array Oper) (C : Nat -> World -> Prop) (E : List Nat) (Q : Act -> World -> Prop) : Nat -> List Oper -> Act -> Prop
 | _, [], a => ∀ w, C E.length w -> Q a w
 | k, o :: rest, a => ∃ a', StepG P ops .any (CLp C E) k o a a' /\ wpGA P ops C E Q (k + 1) rest a'
theorem wpGA_path {Q : Act -> World -> Prop} : ∀ (l : List Oper) (k : Nat) (a : Act), wpGA P ops C E Q k l a ->
 ∃ S : Nat -> Act, S 0 = a /\ (∀ i o, l[i]? = some o -> StepG P ops .any (CLp C E) (k + i) o (S i) (S (i + 1))) /\ ∀ w, C E.length w -> Q (S l.length) w
 | [], k, a, h => ⟨fun _ => a, rfl, fun i o hi => by simp at hi, h⟩
 | o :: rest, k, a, ⟨a', h1, h2⟩ => by
  obtain ⟨S, g0, g1, g2⟩ := wpGA_path rest (k + 1) a' h2
  refine ⟨fun i => match i with | 0 => a | i + 1 => S i, rfl, fun i o' hi => ?_, fun w hw => g2 w hw⟩
  cases i with
  | zero =>
   obtain rfl : o = o' := by simpa using hi
   show StepG P ops .any (CLp C E) (k + 0) o a (S 0)
   rw [g0]; exact h1
  | succ i =>
   have := g1 i o' (by simpa using hi)
   rw [show k + (i + 1) = k + 1 + i by omega]
   exact this
theorem wp_region_G {id : Nat} {Q : Exit -> Act -> World -> Prop} {a : Act} {w : World} {l : List Oper} (hm : P.follows .mixedOrders = true) (hB : Region.lexB .any l.toArray = true) (hD : dstsB l a.tmps.size = true) (hch : chainB l.toArray E = true)
 (hC : C 0 { w with drawn := w.drawn + 1 }) (h : wpGA P l.toArray C E (fun a' w' => Q .normal a' w') 0 l a) : (Code.region id l.toArray true).wp P Q a w := by
 obtain ⟨S, hS0, hst, hfin⟩ := wpGA_path l 0 a h
 have hB' : Region.lexFrom .any l.toArray l.toArray.size 0 (Array.replicate l.toArray.size false) = true := by
  simp only [Region.lexB, Bool.and_eq_true] at hB; exact hB.2
 have hf : ∀ j, (Array.replicate l.toArray.size false).getD j false = true -> False := by
  intro j hl
  by_cases hi : j < l.length <;> simp [hi] at hl
 refine wp_region_any hm ?_
 refine wpAny_G (P := P) (ops := l.toArray) (CL := CLp C E) (md := .any) (a0 := a) (S := S) hS0 (fun k o hk => by have := hst k o (by simpa using hk); rw [Nat.zero_add] at this; exact this)
  (fun k o d hk hd => dsts_lt hD (k := k) (by simpa using hk) hd) (fun j k x y d hj hk hx hy => dsts_one hD (j := j) (k := k) (by simpa using hj) (by simpa using hk) hx hy)
  (fun i oi hi => lexFrom_free _ 0 _ hB' (by simp) (fun i => ?_) (by simp) i oi (Nat.zero_le _) hi) (fun a1 w1 L hcl hall ha => ?_) _ _ _ _ ⟨_, rfl, ?_⟩ ⟨?_, rfl, rfl, by simp, fun j oj hj hl => (hf j hl).elim, fun j oj d hj hl => (hf j hl).elim, fun t _ => rfl⟩
 · by_cases hi : i < l.length
   · simp [hi]
   · simp [hi]; omega
 · have e : E.filter L = E := List.filter_eq_self.2 (fun x hx => hall x (chain_lt hch x hx))
   unfold CLp at hcl
   rw [e] at hcl
   have := hfin w1 hcl
   rw [ha]
   simpa using this
 · rw [count_none]; simp
 · unfold CLp
   have e : E.filter (fun j => (Array.replicate l.toArray.size false).getD j false) = [] := List.filter_eq_nil_iff.2 (fun x _ h => hf x h)
   rw [e]
   exact hC
variable {Q : Act -> World -> Prop} {o : Oper} {rest : List Oper} {k : Nat} {fs : List Value} {ds : List Deferred}
def wpG (P : Program) (ops : Array Oper) (C : Nat -> World -> Prop) (E : List Nat) (Q : Act -> World -> Prop) (ds : List Deferred) (k : Nat) (l : List Oper) (fs : List Value) : Prop := wpGA P ops C E Q k l (mkA fs ds)
theorem wp_chain_list {id : Nat} {Q : Exit -> Act -> World -> Prop} {w : World} {l : List Oper} {fs : List Value} {ds : List Deferred} (E : List Nat) (C : Nat -> World -> Prop) (hm : P.follows .mixedOrders = true) (hB : Region.lexB .any l.toArray = true) (hD : dstsB l fs.length = true) (hch : chainB l.toArray E = true)
 (hC : C 0 { w with drawn := w.drawn + 1 }) (h : wpG P l.toArray C E (fun a' w' => Q .normal a' w') ds 0 l fs) : (Code.region id l.toArray true).wp P Q ⟨fs.toArray, ds⟩ w :=
 wp_region_G hm hB (by simpa using hD) hch hC h
theorem wpG_run (v : Value) (hE : E.contains k = false) (hs : notSelect o = true) (hw : wantedL ops fs o = true) (hrun : ∀ j w, C j w -> (execOp (ev fs) o).run P w = .ok (.value v) w) (c : wpG P ops C E Q ds (k + 1) rest (setL fs o.dst v)) : wpG P ops C E Q ds k (o :: rest) fs :=
 ⟨_, .val v (wantedL_eq.trans hw) (fun L a1 w hC _ ht K Q' hK => by
  have e : execOp a1.eval o = execOp (mkA fs ds).eval o := execOp_congr o (fun cs b h => by simp [notSelect, h] at hs) fun x hx => eval_looks ht x hx
  unfold Oper.wp
  rw [e, mkA_evalF, hrun _ w hC]
  exact hK _ (by unfold CLp at *; rw [filter_upd_not hE]; exact hC)), by rw [mkA_put]; exact c⟩
theorem wpG_run1 {x : Operand} (vx v : Value) (hE : E.contains k = false) (hx : ev fs x = vx) (hs : notSelect o = true) (hw : wantedL ops fs o = true) (hrun : ∀ j w (ρ : Operand -> Value), C j w -> ρ x = vx -> (∀ c, ρ (.const c) = c) -> (execOp ρ o).run P w = .ok (.value v) w) (c : wpG P ops C E Q ds (k + 1) rest (setL fs o.dst v)) : wpG P ops C E Q ds k (o :: rest) fs :=
 wpG_run v hE hs hw (fun j w hC => hrun j w _ hC hx fun _ => rfl) c
theorem wpG_run2 {x y : Operand} (vx vy v : Value) (hE : E.contains k = false) (hx : ev fs x = vx) (hy : ev fs y = vy) (hs : notSelect o = true) (hw : wantedL ops fs o = true) (hrun : ∀ j w (ρ : Operand -> Value), C j w -> ρ x = vx -> ρ y = vy -> (∀ c, ρ (.const c) = c) -> (execOp ρ o).run P w = .ok (.value v) w) (c : wpG P ops C E Q ds (k + 1) rest (setL fs o.dst v)) : wpG P ops C E Q ds k (o :: rest) fs :=
 wpG_run v hE hs hw (fun j w hC => hrun j w _ hC hx hy fun _ => rfl) c
theorem wpG_move {x : Operand} (v : Value) (ho : o.op = .move x) (hE : E.contains k = false) (hv : ev fs x = v) (hw : wantedL ops fs o = true) (c : wpG P ops C E Q ds (k + 1) rest (setL fs o.dst v)) : wpG P ops C E Q ds k (o :: rest) fs :=
 wpG_run v hE (by simp [notSelect, ho]) hw (fun j w _ => by simp only [execOp, ho, hv]; rfl) c
theorem wpG_end (h : ∀ w, C E.length w -> Q ⟨fs.toArray, ds⟩ w) : wpG P ops C E Q ds k [] fs := h
end
end Go.Own
end
section
namespace Go.Own
open Go.RowKit
section
variable {P : Program} {ops : Array Oper} {E : List Nat} {C : Nat -> World -> Prop} {Q : Act -> World -> Prop} {ds : List Deferred} {k : Nat} {o : Oper} {rest : List Oper} {fs : List Value}
def aheadB (ops : Array Oper) (E : List Nat) (k m : Nat) : Bool := decide (m < E.length) && waitsGB ops 30 (E.getD m 0) k
theorem chain_most (hch : chainB ops E = true) {L : Nat -> Bool} {m k : Nat} {o : Oper} (hb : aheadB ops E k m = true) (hc : Comes ops .any k o L) : (E.filter L).length <= m := by
 unfold aheadB at hb
 simp only [Bool.and_eq_true, decide_eq_true_eq] at hb
 obtain ⟨hm, hb⟩ := hb
 have hno : ∀ i, m <= i -> i < E.length -> L (E.getD i 0) = false := by
  intro i hi hil
  by_cases h : L (E.getD i 0) = true
  · have h2 := chain_down hch hc.closed m (i - m) (by omega) (by rw [show m + (i - m) = i by omega]; exact h)
    have h3 := waitsGB_sound hc.closed 30 _ _ hb h2
    rw [hc.not] at h3
    cases h3
  · simpa using h
 have e2 : E.filter L = (E.take m).filter L ++ (E.drop m).filter L := by
  conv => lhs; rw [<- List.take_append_drop m E]
  rw [List.filter_append]
 have e1 : (E.drop m).filter L = [] := by
  apply List.filter_eq_nil_iff.2
  intro x hx
  obtain ⟨i, hi, rfl⟩ := List.mem_iff_getElem.1 hx
  rw [List.length_drop] at hi
  have := hno (m + i) (by omega) (by omega)
  rw [List.getD_eq_getElem?_getD, List.getElem?_eq_getElem (by omega)] at this
  rw [List.getElem_drop]
  simpa using this
 rw [e2, e1, List.append_nil]
 exact Nat.le_trans (List.length_filter_le _ _) (by rw [List.length_take]; omega)
theorem wpG_runU (m : Nat) (v : Value) (hch : chainB ops E = true) (hb : aheadB ops E k m = true) (hE : E.contains k = false) (hs : notSelect o = true) (hw : wantedL ops fs o = true) (hrun : ∀ j w, j <= m -> C j w -> (execOp (ev fs) o).run P w = .ok (.value v) w) (c : wpG P ops C E Q ds (k + 1) rest (setL fs o.dst v)) : wpG P ops C E Q ds k (o :: rest) fs :=
 ⟨_, .val v (wantedL_eq.trans hw) (fun L a1 w hC hcm ht K Q' hK => by
  have e : execOp a1.eval o = execOp (mkA fs ds).eval o := execOp_congr o (fun cs b h => by simp [notSelect, h] at hs) fun x hx => eval_looks ht x hx
  unfold Oper.wp
  rw [e, mkA_evalF, hrun _ w (chain_most hch hb hcm) hC]
  exact hK _ (by unfold CLp at *; rw [filter_upd_not hE]; exact hC)), by rw [mkA_put]; exact c⟩
theorem wpG_runU1 {x : Operand} (m : Nat) (vx v : Value) (hch : chainB ops E = true) (hb : aheadB ops E k m = true) (hE : E.contains k = false) (hx : ev fs x = vx) (hs : notSelect o = true) (hw : wantedL ops fs o = true) (hrun : ∀ j w (ρ : Operand -> Value), j <= m -> C j w -> ρ x = vx -> (∀ c, ρ (.const c) = c) -> (execOp ρ o).run P w = .ok (.value v) w) (c : wpG P ops C E Q ds (k + 1) rest (setL fs o.dst v)) : wpG P ops C E Q ds k (o :: rest) fs :=
 wpG_runU m v hch hb hE hs hw (fun j w hj hC => hrun j w _ hj hC hx fun _ => rfl) c
def leaves (v : Value) (n : Next) : Prop := n = .value v \/ (n = .skip /\ v = undef)
theorem wpG_op (j : Nat) (v : Value) (n : Next) (hn : leaves v n) (hch : chainB ops E = true) (hk : ops[k]? = some o) (hj : E[j]? = some k) (hs : notSelect o = true) (hw : wantedL ops fs o = true)
 (hrun : ∀ w, C j w -> ∃ w', (execOp (ev fs) o).run P w = .ok n w' /\ C (j + 1) w') (c : wpG P ops C E Q ds (k + 1) rest (setL fs o.dst v)) : wpG P ops C E Q ds k (o :: rest) fs :=
 ⟨_, .val v (wantedL_eq.trans hw) (fun L a1 w hC hcm ht K Q' hK => by
  have e : execOp a1.eval o = execOp (mkA fs ds).eval o := execOp_congr o (fun cs b h => by simp [notSelect, h] at hs) fun x hx => eval_looks ht x hx
  obtain ⟨p1, p2⟩ := chain_phase hch hj hk hcm
  unfold CLp at hC
  rw [p1] at hC
  obtain ⟨w', hr, hC'⟩ := hrun w hC
  unfold Oper.wp
  rw [e, mkA_evalF, hr]
  have hfin := hK w' (by unfold CLp; rw [p2]; exact hC')
  rcases hn with rfl | ⟨rfl, rfl⟩
  · exact hfin
  · exact hfin), by rw [mkA_put]; exact c⟩
end
end Go.Own
end
section
namespace Go.Own
open Go.RowKit
theorem run_slot_one {P : Program} {t e : TypeId} {c : Nat} (hu : P.underlying t = some (.slice e)) (hslot : ∀ f : Nat -> Value, P.builtSlice e 1 [(0, .agg ((List.range c).map f).toArray)] = some ((List.range c).map f).toArray) (cs : List Value) (hl : cs.length = c) (w : World) :
 (Instr.buildSlice t 1 #[(0, .agg cs.toArray)]).run P w = .ok (.slice (some ⟨w.heap.size, 0, none⟩) 1 1) (w.alloc (.cells cs.toArray e)) := by
 have hrm : (List.range c).map (fun i => cs.getD i undef) = cs := by
  apply List.ext_getElem
  · simp [hl]
  · intro i h1 h2
    simp [List.getD, h2]
 have h : P.builtSlice e 1 [(0, .agg cs.toArray)] = some cs.toArray := by
  have h := hslot (fun i => cs.getD i undef)
  rw [hrm] at h
  exact h
 unfold Program.builtSlice at h
 cases hie : P.info? e with
 | none => simp [hie] at h
 | some ie =>
  simp only [hie] at h
  cases hz : ie.zero with
  | none => simp [hz] at h
  | some z =>
   simp only [hz] at h
   by_cases hc : 1 * ie.size > 2 ^ 24 \/ 1 * ie.size = 0
   · simp only [Nat.one_mul] at hc
     simp at h
     omega
   · rw [if_neg hc] at h
     have h1 : ¬ (1 * ie.size > 2 ^ 24) := fun h' => hc (Or.inl h')
     have h2 : ¬ (1 * ie.size = 0) := fun h' => hc (Or.inr h')
     simp only [Nat.one_mul] at h1 h2 h
     simp [Instr.buildSlice, run_underlying hu, sizeOf, typeInfo, zeroValue, hie, hz, newRow, h1, h2, h]
theorem wpList_slot_one {P : Program} {ops : Array Oper} {rest : List Oper} {o : Oper} {a : Act} {w : World} {Q : Exit -> Act -> World -> Prop} (hgd : o.guard = none) (t : TypeId) (x : Operand) (ho : o.op = .buildSlice t 1 #[(0, x)]) (cs : List Value) (e : TypeId) (hx : a.eval x = .agg cs.toArray)
 (hrun : (Instr.buildSlice t 1 #[(0, .agg cs.toArray)]).run P w = .ok (.slice (some ⟨w.heap.size, 0, none⟩) 1 1) (w.alloc (.cells cs.toArray e)))
 (h : wpList P ops Q rest (a.put o.dst (.slice (some ⟨w.heap.size, 0, none⟩) 1 1)) (w.alloc (.cells cs.toArray e))) : wpList P ops Q (o :: rest) a w := by
 refine wpList_plain hgd fun K hK => ?_
 unfold Oper.wp
 simp [execOp, ho, hx, hrun, Result.andThen]
 exact hK _ _ h
end Go.Own
end
section
namespace Go.LogM
theorem barrier_pp (s : FlaM.FS) : (FlaM.barrier s).1.pp = s.pp := by
 unfold FlaM.barrier
 split
 · exact (trip_same s).2.2
 · exact (trip_same s).2.2
end Go.LogM
namespace Go.Proofs.YtahjjcmeocibbaaGreatDoor
open Go.RowKit Go.Own
namespace Lg
open Go.LogM Byt
section
variable {W w0 w : World} {FK : Fla.Kept W} {TK : Tab.Kept W} {K : Kept W FK TK} {B : Nat} {p pf pt : Nat} {σ : LG} {Ps : List Asn} {N : Nat}
end
theorem fates_in {l : List Int} {B : Nat} {w w' : World} {ao : Option Addr} {n cap : Nat} (h : inSlice 1 (inInt .i64) l B w [.slice ao n cap]) (g : ∀ k, k < B -> w'.heap[k]? = w.heap[k]?) (hB : B <= w'.heap.size) : Fla.LiesI B w' [] ao n cap l := by
 obtain ⟨ao', cap', h1, h2, h3, h4, h5⟩ := h
 simp only [List.cons.injEq, Value.slice.injEq, and_true] at h1
 obtain ⟨rfl, rfl, rfl⟩ := h1
 have hint : ∀ j, j < l.length -> Fla.i64B (l.getD j 0) := by
  intro j hj
  rcases h5 with rfl | ⟨b, o, e, hb, hs, hcc⟩
  · simp at hj
  · obtain ⟨cs', g1, g2, g3⟩ := hcc j hj
    obtain ⟨_, q2⟩ := g3
    rw [List.getD_eq_getElem?_getD, List.getElem?_eq_getElem hj]
    exact Fla.wf64 q2
 refine ⟨rfl, ⟨h2, h3⟩, h4, hint, .inr ?_⟩
 rcases h5 with rfl | ⟨b, o, e, hb, hs, hcc⟩
 · exact .inl rfl
 · refine .inr ⟨b, o, e, hb, Nat.lt_of_lt_of_le hb hB, fun j hj => ⟨?_, hint j hj⟩⟩
   obtain ⟨cs', g1, g2, g3⟩ := hcc j hj
   obtain ⟨rfl, q2⟩ := g3
   have := (World.cell?_of_block (w := w) (g b hb)).trans (g2 0 (by simp))
   simp only [Nat.mul_one, Nat.add_zero] at this
   rw [this, List.getD_eq_getElem?_getD, List.getElem?_eq_getElem hj]
   rfl
theorem entsC_at : ∀ (E : List Ent) (gs : List GSl), gs.length = E.length -> (∀ e ∈ E, e.note.sum.length = 32) -> ∀ i (h1 : i < E.length) (h2 : i < gs.length) j v, (entC E[i] (gslV gs[i]))[j]? = some v -> (entsC E gs)[i * 40 + j]? = some v
 | [], _, _, _, i, h1, _, _, _, _ => absurd h1 (Nat.not_lt_zero _)
 | _ :: _, [], hl, _, _, _, _, _, _, _ => by simp at hl
 | n :: ns, g :: gs, hl, hs, 0, _, _, j, v, hv => by
  show (entC n (gslV g) ++ entsC ns gs)[0 * 40 + j]? = some v
  have hv' : (entC n (gslV g))[j]? = some v := hv
  rw [Nat.zero_mul, Nat.zero_add, List.getElem?_append_left (List.getElem?_eq_some_iff.1 hv').1]
  exact hv'
 | n :: ns, g :: gs, hl, hs, i + 1, h1, h2, j, v, hv => by
  show (entC n (gslV g) ++ entsC ns gs)[(i + 1) * 40 + j]? = some v
  have h37 := entC_len n (gslV g) (hs n List.mem_cons_self)
  rw [List.getElem?_append_right (by rw [h37, Nat.add_mul]; omega), h37, show (i + 1) * 40 + j - 40 = i * 40 + j by rw [Nat.add_mul]; omega]
  exact entsC_at ns gs (by simpa using hl) (fun x hx => hs x (List.mem_cons_of_mem _ hx)) i (by simpa using h1) (by simpa using h2) j v hv
def zEnt : List Value := entC ⟨zP, RecM.zeroN⟩ Rec.nilV
theorem zero_ent : (Tryz.prog.info? 64).bind (·.zero) = some (.agg zEnt.toArray) := by kernel_rfl
theorem zEnt_len : zEnt.length = 40 := entC_len _ _ rfl
theorem info_ent (cs : List Value) (h : cs.length = 40) : (Tryz.prog.info? 64).map (·.size) = some cs.length := by
 have h0 : (Tryz.prog.info? 64).map (fun i => i.size) = some 40 := by kernel_rfl
 rw [h]; exact h0
theorem entC_one {e : Ent} {v : Value} (hv : v.oneCell' = true) : ∀ u ∈ entC e v, u.oneCell' = true := by
 intro u hu
 unfold entC at hu
 simp only [List.mem_cons] at hu
 rcases hu with rfl | rfl | rfl | hu
 · rfl
 · rfl
 · rfl
 · exact Rec.ntC_one hv u hu
theorem ents_get (seg : Int) : ∀ (l : List RecM.Nte) (a i : Nat) (h : i < (ents seg a l).length), ∃ h2 : i < l.length, (ents seg a l)[i].note = l[i]
 | [], _, _, h => absurd h (Nat.not_lt_zero _)
 | n :: l, a, 0, _ => ⟨Nat.succ_pos _, rfl⟩
 | n :: l, a, i + 1, h => by
  obtain ⟨h2, e⟩ := ents_get seg l (a + (notePages n).length) i (by simpa [ents] using h)
  exact ⟨Nat.succ_lt_succ h2, e⟩
theorem ents_len (seg : Int) : ∀ (l : List RecM.Nte) (a : Nat), (ents seg a l).length = l.length
 | [], _ => rfl
 | n :: l, a => by show (ents seg _ l).length + 1 = _; rw [ents_len seg l]; rfl
theorem behind2 {B : Nat} {w0 w : World} {x y a b c : Asn} {Ps : List Asn} (h : Own.St B w0 w (x :: y :: a :: b :: c :: Ps)) : Own.St B w0 w (a :: b :: c :: x :: y :: Ps) :=
 h.perm ((List.perm_append_comm (l₁ := [x, y]) (l₂ := [a, b, c])).append_right Ps)
end Lg
end Go.Proofs.YtahjjcmeocibbaaGreatDoor
end
section
namespace Go.LogM
def totF (f : Nat -> List RecM.Nte) : Nat -> Nat
 | 0 => 0
 | j + 1 => totF f j + (f j).length
theorem allN_at (Ns : Nat -> List RecM.Nte) : ∀ (k j x : Nat), j < k -> x < (Ns j).length -> (allN Ns k)[tot Ns j + x]? = (Ns j)[x]?
 | 0, j, x, h, _ => absurd h (Nat.not_lt_zero _)
 | k + 1, j, x, h, hx => by
  unfold allN
  rcases Nat.lt_or_ge j k with hj | hj
  · have ih := allN_at Ns k j x hj hx
    have hl : tot Ns j + x < (allN Ns k).length := by
     rw [List.getElem?_eq_getElem hx] at ih
     exact (List.getElem?_eq_some_iff.1 ih).1
    rw [List.getElem?_append_left hl, ih]
  · have e : j = k := by omega
    subst e
    rw [List.getElem?_append_right (by rw [allN_len]; omega), allN_len, show tot Ns j + x - tot Ns j = x by omega]
theorem totF_found (k : Nat) (Ns : Nat -> List RecM.Nte) (m : Nat) : ∀ j, j + 1 <= k -> totF (foundAt k Ns m) j = tot Ns j
 | 0, _ => rfl
 | j + 1, h => by
  unfold totF tot
  rw [totF_found k Ns m j (by omega)]
  unfold foundAt
  rw [if_pos (by omega)]
theorem crash_len {s : FlaM.FS} {N : Nat} (ok : FlaM.Ok s N) (fates : List Int) : (FlaM.crash s fates).safe.length = s.safe.length :=
 (FlaM.shape_all fates s.L s.safe 0 ok.shape ok.acts).len
end Go.LogM
namespace Go.Proofs.YtahjjcmeocibbaaGreatDoor
open Go.RowKit Go.Own
namespace Lg
open Go.LogM Byt
end Lg
end Go.Proofs.YtahjjcmeocibbaaGreatDoor
end
section
namespace Go.LogM
noncomputable def chN (i : Nat) (b : List UInt8) : RecM.Nte := ⟨1, 0, i, Go.SpoM.sha b, 0, LzM.pack b⟩
theorem chN_fits (i : Nat) (b : List UInt8) (hi : i <= 100) : RecM.Fits (chN i b) := ⟨(by decide : 0 < 4294967296), (by show i < 18446744073709551616; omega), Go.SpoM.sha_len b, (by decide : 0 < 4294967296)⟩
theorem chN_right (i : Nat) (b : List UInt8) (hb : b.length = 256) : RecM.right (chN i b) = true := by
 have hP : (LzM.pack b).length <= 257 := by have := LzM.pack_len b; omega
 unfold RecM.right chN
 simp only [if_true, Bool.and_true, decide_eq_true_eq]
 omega
structure ChI (N q : Nat) (σ : LG) (k : Nat) (op hd : Bool) (Ns : Nat -> List RecM.Nte) (ex : List Bs) (F : Nat -> List Bs) (X : List Bs) (er : Bool) (bs : List (List UInt8)) (cnt : Nat) : Prop where
 inv : Inv 0 50 σ k op hd Ns ex F X er
 ok : FlaM.Ok σ.fs N
 pp : σ.fs.pp = 6
 kq : k <= q
 qN : q < N
 all_ : bs.mapIdx chN = allN Ns k
 few : bs.length <= q
 safe : Sf cnt k Ns F
section
variable {N q : Nat} {σ : LG} {bs : List (List UInt8)} {cnt : Nat}
def ChE (N q : Nat) (σ : LG) (bs : List (List UInt8)) (cnt : Nat) : Prop := ∃ k op hd Ns ex F X er, ChI N q σ k op hd Ns ex F X er bs cnt
theorem ChE.lg (h : ChE N q σ bs cnt) : LgOk 0 σ N := by
 obtain ⟨k, op, hd, Ns, ex, F, X, er, h⟩ := h
 exact h.inv.ok (by decide) h.ok (by have := h.kq; have := h.qN; omega) (by have := h.qN; omega)
theorem ChE.few (h : ChE N q σ bs cnt) : bs.length <= q := by obtain ⟨_, _, _, _, _, _, _, _, h⟩ := h; exact h.few
theorem ChE.append (h : ChE N q σ bs cnt) (hq : q < 40) (b : List UInt8) (hb : b.length = 256) (hl : bs.length = q) :
 (∃ σ' pl, appendL 0 σ (chN q b) = (σ', (pl, 0)) /\ ChE (N + 8) (q + 1) σ' (bs ++ [b]) cnt) \/ (∃ σ' pl, appendL 0 σ (chN q b) = (σ', (pl, 6)) /\ ChE (N + 8) (q + 1) σ' bs cnt) := by
 obtain ⟨k, op, hd, Ns, ex, F, X, er, h⟩ := h
 have hf := chN_fits q b (by omega)
 have hr := chN_right q b hb
 have hfew := notePages_few hf hr
 have hkq := h.kq
 have hqN := h.qN
 obtain ⟨⟨k', op', hd', Ns', ex', F', X', er', z⟩, qok⟩ := inv_append h.inv h.ok ⟨hf, hr⟩ (by omega) (by rw [h.pp]; omega)
 have hlo := z.lo
 have hhi := z.hi
 have hall : allN Ns k' = allN Ns k := by
  rcases (show k' = k \/ k' = k + 1 by omega) with e | e
  · rw [e]
  · rw [e]
    show allN Ns k ++ Ns k = _
    rw [(h.inv.new k (Nat.le_refl _)).2, List.append_nil]
 rcases z.or with ⟨r0, r1, r2, r3, r4, r5, r6⟩ | ⟨r1, r2, r3⟩
 · refine .inl ⟨(appendL 0 σ (chN q b)).1, (appendL 0 σ (chN q b)).2.1, Prod.ext rfl (Prod.ext rfl r0), k', op', hd', Ns', ex', F', X', er', z.inv, qok.more (by omega), z.pp.trans h.pp, by omega, by omega, ?_, by rw [List.length_append, List.length_singleton]; omega, z.sf cnt h.safe⟩
   subst r1
   have hk' := z.inv.opn rfl
   have := allN_snoc Ns (k' - 1) (chN q b)
   rw [Nat.sub_add_cancel hk'] at this
   rw [r4, this, hall, <- h.all_, List.mapIdx_concat, hl]
 · subst r3
   exact .inr ⟨(appendL 0 σ (chN q b)).1, zP, by rw [<- r1], k', op', hd', Ns', ex', F', X', er', z.inv, qok.more (by omega), z.pp.trans h.pp, by omega, by omega, by rw [hall]; exact h.all_, by omega, z.sf cnt h.safe⟩
theorem ChE.barrier (h : ChE N q σ bs cnt) : ((FlaM.barrier σ.fs).2 = 0 /\ ChE (N + 2) q ⟨(FlaM.barrier σ.fs).1, σ.tb, σ.a⟩ bs bs.length) \/ ((FlaM.barrier σ.fs).2 = 6 /\ ChE (N + 2) q ⟨(FlaM.barrier σ.fs).1, σ.tb, σ.a⟩ bs cnt) := by
 obtain ⟨k, op, hd, Ns, ex, F, X, er, h⟩ := h
 have hqN := h.qN
 have okb := FlaM.ok_barrier h.ok
 obtain ⟨hor, hpp⟩ := inv_barrier h.inv h.ok
 rcases hor with ⟨h0, F', hI⟩ | ⟨h6, hI⟩
 · refine .inl ⟨h0, k, op, true, Ns, [], F', [], false, hI, okb.more (by omega), hpp.trans h.pp, h.kq, by omega, h.all_, h.few, ?_⟩
   have e := congrArg List.length h.all_
   rw [List.length_mapIdx, allN_len] at e
   rw [e]
   exact sf_all hI
 · exact .inr ⟨h6, k, op, hd, Ns, ex, F, X, er, hI, okb.more (by omega), hpp.trans h.pp, h.kq, by omega, h.all_, h.few, h.safe⟩
theorem ChE.more {M : Nat} (h : ChE N q σ bs cnt) (hM : N <= M) : ChE M q σ bs cnt := by
 obtain ⟨k, op, hd, Ns, ex, F, X, er, h⟩ := h
 exact ⟨k, op, hd, Ns, ex, F, X, er, h.inv, h.ok.more hM, h.pp, h.kq, Nat.lt_of_lt_of_le h.qN hM, h.all_, h.few, h.safe⟩
def sChn : LG := ⟨FlaM.fresh 50 6, TabM.fresh 50, 6⟩
theorem ch_ok : FlaM.Ok sChn.fs 1 := (FlaM.ok_fresh 50 6 (by decide) (by omega)).more (by omega)
theorem ch_lg : LgOk 0 sChn 1 := (inv_fresh 0 50 6 (by decide)).ok (by decide) ch_ok (by omega) (by omega)
theorem ch_new (after : Int) (ha : after <= 9223372036854775807) : ChE 2 0 ⟨FlaM.cut sChn.fs after, sChn.tb, sChn.a⟩ [] 0 := by
 have hI := inv_fresh 0 50 6 (by decide)
 obtain ⟨hI2, hpp2⟩ := inv_cut hI after
 exact ⟨0, _, _, _, _, _, _, _, hI2, (FlaM.ok_cut ch_ok after ha).more (by omega), hpp2, Nat.le_refl _, by decide, rfl, Nat.le_refl _, 0, Nat.zero_le _, Nat.zero_le _, fun h => absurd h (Nat.lt_irrefl _)⟩
structure FoundC (σ : LG) (N k : Nat) (bs : List (List UInt8)) (cnt : Nat) (seqs : Nat -> Nat) (found : Nat -> List RecM.Nte) : Prop where
 k40 : k <= 40
 lg : LgOk 0 σ N
 scan : ∀ j : Nat, j < 50 -> scanL 0 σ (j : Int) 1 = ((seqs j, ents (j : Int) 1 (found j)), 0)
 seq : ∀ j, j < k -> seqs j <= 100
 at_ : ∀ j x, j < k -> (hx : x < (found j).length) -> ∃ h : totF found j + x < bs.length, (found j)[x] = chN (totF found j + x) bs[totF found j + x]
 cnt : cnt <= totF found k
theorem ChE.crash (h : ChE N q σ bs cnt) (hq : q <= 40) (fates : List Int) :
 ∃ k s seqs found, TabM.sealedL σ.tb = List.range s /\ ((TabM.cur σ.tb = none /\ k = s) \/ (TabM.cur σ.tb = some s /\ k = s + 1)) /\ FoundC ⟨FlaM.crash σ.fs fates, σ.tb, σ.a⟩ (N + 1) k bs cnt seqs found := by
 have hlg := h.lg
 obtain ⟨k, op, hd, Ns, ex, F, X, er, h⟩ := h
 obtain ⟨mm, hok, h1, h2, h3, h4⟩ := scan_crash h.inv h.ok (by decide) fates
 have hkq := h.kq
 have hkm := h.inv.km
 refine ⟨k, if op = true then k - 1 else k, seqAt k hok, foundAt k Ns mm, ?_, ?_, by omega, ?_, h4, ?_, ?_, ?_⟩
 · rw [h.inv.tb]
   cases hop : op
   · rw [if_neg (by decide)]; exact tab_sealed hkm
   · rw [if_pos rfl]; exact tab_sealedO (h.inv.opn hop) hkm
 · rw [h.inv.tb]
   cases hop : op
   · exact .inl ⟨tab_nocur _ _, by rw [if_neg (by decide)]⟩
   · have h0 := h.inv.opn hop
     refine .inr ⟨by rw [if_pos rfl]; exact tab_cur h0 hkm, ?_⟩
     rw [if_pos rfl]
     omega
 · refine ⟨(FlaM.ok_crash h.ok fates).more (by omega), hlg.tb.more (by omega), ?_, hlg.pp, hlg.a, hlg.load⟩
   show 0 + σ.tb.rows.length <= (FlaM.crash σ.fs fates).safe.length
   rw [crash_len h.ok]
   exact hlg.room
 · intro j hj
   unfold seqAt
   split
   · omega
   · omega
 · intro j x hj hx
   have ht : totF (foundAt k Ns mm) j = tot Ns j := totF_found k Ns mm j (by omega)
   have hx2 : x < (Ns j).length /\ (foundAt k Ns mm j)[x]? = (Ns j)[x]? := by
    unfold foundAt at hx ⊢
    split at hx
    · rename_i hc
      rw [if_pos hc]; exact ⟨hx, rfl⟩
    · rename_i hc
      split at hx
      · rename_i hc2
        rw [if_neg hc, if_pos hc2]
        rw [List.length_take] at hx
        exact ⟨by omega, List.getElem?_take_of_lt (by omega)⟩
      · simp at hx
   have e := allN_at Ns k j x hj hx2.1
   rw [<- h.all_, List.getElem?_mapIdx, <- hx2.2, List.getElem?_eq_getElem hx, <- ht] at e
   have hb : totF (foundAt k Ns mm) j + x < bs.length := by
    rcases Nat.lt_or_ge (totF (foundAt k Ns mm) j + x) bs.length with h | h
    · exact h
    · rw [List.getElem?_eq_none h] at e
      cases e
   rw [List.getElem?_eq_getElem hb] at e
   exact ⟨hb, (Option.some.inj e).symm⟩
 · have := h3 cnt h.safe
   rcases Nat.eq_zero_or_pos k with hk0 | hk0
   · subst hk0
     rw [tot_zero (h.inv.zero rfl), h.inv.zero rfl] at *
     simp at h1
     show cnt <= 0
     omega
   · obtain ⟨k1, rfl⟩ : ∃ k1, k = k1 + 1 := ⟨k - 1, by omega⟩
     rw [Nat.add_sub_cancel] at h1 this
     unfold totF
     rw [totF_found (k1 + 1) Ns mm k1 (by omega)]
     unfold foundAt
     rw [if_neg (by omega), if_pos rfl, List.length_take]
     omega
end
end Go.LogM
end
section
namespace Go.Proofs.YtahjjcmeocibbaaGreatDoor
open Go.RowKit Go.Own
namespace Mat
open Go.MatM Byt
def comI (l : Bs) (i k : Int) : Nat := if i < 0 \/ k < 0 \/ (l.length : Int) <= i \/ (l.length : Int) <= k then 0 else com l i.toNat k.toNat
end Mat
end Go.Proofs.YtahjjcmeocibbaaGreatDoor
end
section
namespace Go.Proofs.YtahjjcmeocibbaaGreatDoor
open Go.RowKit Go.Own
namespace Lz
open Go.MatM Go.LzM Byt
def Reads (l : Bs) (w : World) (v : Value) (w' : World) : Prop := ∃ ao c, v = .slice ao l.length c /\ Given w' ao l.length c l /\ Below w.heap.size w w'
end Lz
end Go.Proofs.YtahjjcmeocibbaaGreatDoor
end
section
namespace Go.Proofs.YtahjjcmeocibbaaGreatDoor
open Go.RowKit Go.Own
namespace Byt
theorem zeroBytes (n : Nat) : (Builtin.zeroCells (Value.int .u8 0).cells n).toList = (List.replicate n (0 : UInt8)).map byteV := by
 unfold Builtin.zeroCells
 apply List.ext_getElem?
 intro i
 by_cases hi : i < n
 · simp [hi, Value.cells, byteV, Nat.mod_one]
 · simp [hi, Value.cells]
theorem zeroBytes' (n : Nat) : Builtin.zeroCells (Value.int .u8 0).cells n = ((List.replicate n (0 : UInt8)).map byteV).toArray := by
 rw [<- zeroBytes]
theorem int_under : Tryz.prog.underlying 3 = some (.int .i64) := Tryz.underlying3
section
variable {B : Nat} {w0 w : World} {Ps : List Asn} {ao : Option Addr} {n cap : Nat} {l : List UInt8}
theorem ab_append_zeros (H : St B w0 w Ps) (i : Nat) (hi : Ps[i]? = some (AB ao n cap l)) (ty : TypeId) (m : Nat) (b1 : n + m <= 1000000000) :
 ∃ ao' cap' w', (Builtin.append_ #[37, 3] ty #[.slice ao n cap, .int .i64 (m : Int)]).run Tryz.prog w = .ok (.slice ao' (n + m) cap') w' /\ St B w0 w' (Ps.set i (AB ao' (n + m) cap' (l ++ List.replicate m 0))) := by
 obtain ⟨i0, hi0, hz0, hz1, hz2⟩ := info_parts infoU8
 obtain ⟨S, hS, _, put⟩ := H.at i hi
 have hlen := AB.len hS
 have hw : IntKind.i64.wrap (m : Int) = m := by rw [IntKind.wrap_i64]; omega
 have hneg : ¬ ((m : Int) < 0) := by omega
 have h48i : ¬ (281474976710656 < (m : Int)) := by omega
 by_cases hroom : n + m <= cap
 · by_cases hm : m = 0
   · subst hm
     refine ⟨ao, cap, w, ?_, by simpa using put S w (AB ao n cap l) hS (Step.refl S w)⟩
     have hroom' : n <= cap := hroom
     have hw0 : IntKind.i64.wrap 0 = 0 := by decide
     cases ao with
     | none => simp [Builtin.append_, run_underlying Tryz.underlying37, run_underlying int_under, sizeOf, typeInfo, hi0, asInt, asIntOf, hw0, hz2, hroom']
     | some a => simp [Builtin.append_, run_underlying Tryz.underlying37, run_underlying int_under, sizeOf, typeInfo, hi0, asInt, asIntOf, hw0, hz2, hroom', storeCells]
   · obtain ⟨hown, hset⟩ := hS
     rcases hown.2 with ⟨hv, _⟩ | ⟨g, cap', cur, hv, hbg, hg, hnc, hcm, hcs, htake⟩
     · cases hv; omega
     · cases hv
       simp only [Nat.mul_one] at hcs htake
       have hzc := zeroBytes' m
       have hl2 : ((List.replicate m (0 : UInt8)).map byteV).length = m := by simp
       have hst := run_storeCells_at (P := Tryz.prog) g n 5 ((List.replicate m (0 : UInt8)).map byteV) 0 cur w hg (by rw [hl2, hcs]; omega) (byteV_one _)
       have hadd : (⟨g, 0, none⟩ : Addr).add n = ⟨g, n, none⟩ := by rw [add_of, Nat.zero_add]
       have hmz : ¬ m * i0.size = 0 := by rw [hz1]; omega
       refine ⟨some ⟨g, 0, none⟩, cap, w.setRow g (cur.toList.take (n + 0) ++ (List.replicate m (0 : UInt8)).map byteV ++ cur.toList.drop (n + 0 + ((List.replicate m (0 : UInt8)).map byteV).length)).toArray, ?_, ?_⟩
       · simp [Builtin.append_, run_underlying Tryz.underlying37, run_underlying int_under, sizeOf, typeInfo, zeroValue, hi0, hz0, asInt, asIntOf, hw, hneg, hz1, hz2, h48i, hroom, hm, hadd]
         rw [hzc]
         rw [hl2] at hst
         simp only [hst]
         simp
       · refine put S _ (AB (some ⟨g, 0, none⟩) (n + m) cap (l ++ List.replicate m 0)) ⟨⟨by simp [hlen.1], .inr ⟨g, cap, _, rfl, hbg, setRow_heap w g cur _ _ _ hg, hroom, hcm, ?_, ?_⟩⟩, fun k => by rw [hset k]; simp [Value.ownBlock]⟩ ⟨rfl, rfl, rfl, by simp, fun k hk hT => setRow_other w g k _ (fun e => hT ((hset k).2 (by simp [Value.ownBlock, e]))), fun k hk => .inl hk⟩
         · simp only [List.size_toArray, List.length_append, List.length_take, List.length_drop, Array.length_toList, hl2]
           omega
         · rw [List.map_append, Nat.add_zero, htake, Nat.mul_one]
           have e : n + m = (l.map byteV ++ (List.replicate m (0 : UInt8)).map byteV).length := by simp [hlen.1]
           rw [e]
           exact List.take_left
 · have hold : (Builtin.firstCells i0.size n (.slice ao n cap)).run Tryz.prog w.drew = .ok (l.map byteV).toArray w.drew := by
    cases ao with
    | none =>
     obtain ⟨h0, _⟩ := hlen.2.2.2 rfl
     subst h0
     rw [List.eq_nil_of_length_eq_zero hlen.1]
     exact run_firstCells_none w.drew i0.size 0 0 cap
    | some a => exact run_firstCells_some w.drew i0.size n a n cap (l.map byteV) (by rw [List.length_map, hlen.1, hz1, Nat.mul_one]) (by
     have h := vcells (AB.view hS) a rfl
     simpa using h)
   have hfit := growslice_fits (need := n + m) (old := cap) (bytes := i0.bytes) (by omega) (by rw [hz2]; omega)
   have hr := Lib.run_append_grow_zeros (P := Tryz.prog) w 37 3 ty 5 i0 (.int .u8 0) .i64 .i64 Tryz.underlying37 int_under hi0 hz0 ao n cap (l.map byteV) hold m (by omega) (by omega) (by omega) (by omega) (by rw [hz2]; omega) hfit
   have hge := grownCap_ge w (n + m) cap 5
   have hcm : grownCap w (n + m) cap 5 <= maxLen := grownCap_le_maxLen w (n + m) cap _ (by unfold maxLen; omega)
   refine ⟨_, _, _, hr, put (fun k => k = w.heap.size) _ (AB (some ⟨w.heap.size, 0, none⟩) (n + m) (grownCap w (n + m) cap 5) (l ++ List.replicate m 0)) ⟨⟨by simp [hlen.1], .inr ⟨w.heap.size, _, _, rfl, Nat.zero_le _, heap_alloc_new w.drew _, hge, hcm, ?_, ?_⟩⟩, fun k => by simp [Value.ownBlock, eq_comm]⟩ ⟨rfl, rfl, rfl, by simp, fun k hk _ => heap_alloc_old w.drew _ hk, fun k hk => .inr (Nat.le_of_eq hk.symm)⟩⟩
   · rw [zeroBytes', zeroBytes']
     simp [hlen.1]
     omega
   · rw [zeroBytes', zeroBytes']
     simp only [Array.toList_append, Nat.mul_one, List.map_append]
     have e : n + m = (l.map byteV ++ (List.replicate m (0 : UInt8)).map byteV).length := by simp [hlen.1]
     rw [e]
     exact List.take_left
theorem wpList_ab_append_zeros {ops : Array Oper} {rest : List Oper} {o : Oper} {a : Act} {Q : Exit -> Act -> World -> Prop} (hgd : o.guard = none) (s x : Operand)
 (ho : o.op = .call { callee := .builtin .append, args := #[s, x], argTypes := #[37, 3] }) (H : St B w0 w Ps) (i : Nat) (hi : Ps[i]? = some (AB ao n cap l)) (hs : a.eval s = .slice ao n cap)
 (m : Nat) (hx : a.eval x = .int .i64 (m : Int)) (b1 : n + m <= 1000000000) (q : Nat) (hq : n + m = q)
 (h : ∀ ao' cap' w', St B w0 w' (Ps.set i (AB ao' q cap' (l ++ List.replicate m 0))) -> wpList Tryz.prog ops Q rest (a.put o.dst (.slice ao' q cap')) w') : wpList Tryz.prog ops Q (o :: rest) a w := by
 subst hq
 obtain ⟨ao', cap', w', hrun, h1⟩ := ab_append_zeros H i hi o.type m b1
 exact Lib.wpList_append_run w hgd s x _ _ ho _ _ hs hx _ _ hrun (h ao' cap' w' h1)
theorem step_ab_copy {ops : Array Oper} {o : Oper} {a : Act} {K : Act -> World -> Prop} {Q : Exit -> Act -> World -> Prop} {E : Prop} (hgd : o.guard = none) (d s : Operand)
 (ho : o.op = .call { callee := .builtin .copy, args := #[d, s], argTypes := #[37, 37] }) {g : Nat} (H : St B w0 w Ps) (i : Nat) (hi : Ps[i]? = some (AB (some ⟨g, 0, none⟩) n cap l)) (k dn dc : Nat) (hd : a.eval d = .slice (some ⟨g, k, none⟩) dn dc) (hk : k + dn <= n)
 (bo : Addr) (sn sc : Nat) (news : List UInt8) (hx : a.eval s = .slice (some bo) sn sc) (hl : news.length = min sn dn)
 (hc : ∀ j u, (news.map byteV)[j]? = some u -> w.cell? (bo.add j) = some u)
 (h : ∀ w', St B w0 w' (Ps.set i (AB (some ⟨g, 0, none⟩) n cap (l.take k ++ news ++ l.drop (k + news.length)))) -> K (a.put o.dst (goInt news.length)) w') :
 if Region.wanted o (yielded ops a.tmps) = true then Oper.wp Tryz.prog o a w K Q else E := by
 have hw : Region.wanted o (yielded ops a.tmps) = true := by simp [Region.wanted, hgd]
 rw [if_pos hw]
 have hset := ab_setCells i news k w Ps l H hi (by omega)
 have hcells : ∀ j, j < (news.map byteV).length -> (w.cell? ⟨g, k + j, none⟩).isSome = true /\ w.frozen? ⟨g, k + j, none⟩ = false := by
  intro j hj
  rw [List.length_map] at hj
  obtain ⟨g', hg', h1, h2, _⟩ := ab_byte H i hi (k + j) (by omega)
  cases hg'
  exact ⟨by rw [h1]; rfl, h2⟩
 have hrun := run_copy_cells (P := Tryz.prog) w 37 37 o.type 5 g k dn dc bo sn sc (news.map byteV) Tryz.underlying37 info8 (by rw [List.length_map, hl]) hc (fun j hj => (hcells j hj).1) (fun j hj => (hcells j hj).2) (byteV_one _)
 rw [List.length_map] at hrun
 unfold Oper.wp
 simp [execOp, ho, resolve, invoke, builtin, hd, hx, hrun, Result.andThen]
 exact h _ hset
end
end Byt
end Go.Proofs.YtahjjcmeocibbaaGreatDoor
end
section
namespace Go.LzM
open Go.MatM
theorem ext_getD {a b : Bs} (hl : a.length = b.length) (h : ∀ i, i < a.length -> a.getD i 0 = b.getD i 0) : a = b := by
 apply List.ext_getElem hl
 intro i h1 h2
 have := h i h1
 simpa [List.getD, h1, h2] using this
theorem copyN_add (d : Nat) : ∀ (a b : Nat) (out : Bs), copyN out d (a + b) = copyN (copyN out d a) d b
 | 0, b, out => by rw [Nat.zero_add]; rfl
 | a + 1, b, out => by
  rw [show a + 1 + b = (a + b) + 1 by omega]
  exact copyN_add d a b _
theorem copyN_per (d : Nat) (hd : 1 <= d) (n : Nat) (out : Bs) (hdl : d <= out.length) : ∀ (q p : Nat), out.length <= p + d -> p + q * d < out.length + n -> (copyN out d n).getD (p + q * d) 0 = (copyN out d n).getD p 0
 | 0, p, _, _ => by rw [Nat.zero_mul, Nat.add_zero]
 | q + 1, p, h1, h2 => by
  have e : p + (q + 1) * d = p + q * d + d := by rw [Nat.add_mul, Nat.one_mul, Nat.add_assoc]
  have h0 : 0 <= q * d := Nat.zero_le _
  rw [e] at h2 ⊢
  rw [copyN_at d hd n out hdl (p + q * d + d) (by omega) h2, Nat.add_sub_cancel]
  exact copyN_per d hd n out hdl q p h1 (by omega)
theorem copyN_block (d : Nat) (hd : 1 <= d) (out : Bs) (hdl : d <= out.length) (t c : Nat) (hdiv : d ∣ t) (hc : c <= t + d) : copyN out d (t + c) = copyN out d t ++ ((copyN out d t).drop (out.length - d)).take c := by
 have l1 := copyN_len d (t + c) out
 have l2 := copyN_len d t out
 apply ext_getD
 · rw [List.length_append, List.length_take, List.length_drop, l1, l2]; omega
 · intro i hi
   rw [l1] at hi
   have pre : ∀ j, j < out.length + t -> (copyN out d (t + c)).getD j 0 = (copyN out d t).getD j 0 := by
    intro j hj
    rw [copyN_add]
    exact copyN_pre d c _ j (by rw [l2]; exact hj)
   by_cases h : i < out.length + t
   · rw [pre i h]
     simp [List.getD, List.getElem?_append_left (show i < (copyN out d t).length by rw [l2]; exact h)]
   · obtain ⟨q, rfl⟩ := hdiv
     obtain ⟨j, hj⟩ : ∃ j, i = out.length + d * q + j := ⟨i - (out.length + d * q), by omega⟩
     have e : i = (out.length - d + j) + (q + 1) * d := by rw [Nat.add_mul, Nat.one_mul, Nat.mul_comm q d]; omega
     have e2 : (q + 1) * d = d * q + d := by rw [Nat.add_mul, Nat.one_mul, Nat.mul_comm q d]
     have hper := copyN_per d hd (d * q + c) out hdl (q + 1) (out.length - d + j) (by omega) (by rw [<- e]; omega)
     rw [<- e, pre (out.length - d + j) (by omega)] at hper
     rw [hper, List.getD_eq_getElem?_getD, List.getD_eq_getElem?_getD, List.getElem?_append_right (by rw [l2]; omega), l2, List.getElem?_take_of_lt (by omega), List.getElem?_drop]
     congr 2
     omega
end Go.LzM
namespace Go.Proofs.YtahjjcmeocibbaaGreatDoor
open Go.RowKit Go.Own
namespace Lz
open Go.MatM Go.LzM Byt
set_option maxHeartbeats 4000000 in
theorem repeat_st {B : Nat} {w0 w : World} {Ps : List Asn} {ax : Option Addr} {k cx : Nat} {out : Bs} (H : Own.St B w0 w (AB ax k cx out :: Ps)) (d m : Nat) (hd : 1 <= d) (hdk : d <= k) (hb : k + m <= 1000000000) :
 Calls Tryz.prog 116 #[.slice ax k cx, .int .i64 (d : Int), .int .i64 (m : Int)] w fun e w' => ∃ a' c', e = .returned (.slice a' (k + m) c') /\ Own.St B w0 w' (AB a' (k + m) c' (copyN out d m) :: Ps) := by
 have H0 := Lib.hid H
 have HOL := Lib.hid (ab_len H 0 rfl).1
 obtain ⟨F, hF⟩ : ∃ F, F = k - d := ⟨_, rfl⟩
 have hFi : (k : Int) - (d : Int) = (F : Int) := by omega
 have HFF := Lib.hid hF
 have hFk : F < k := by omega
 obtain ⟨N, hN⟩ : ∃ N, k + m = N := ⟨_, rfl⟩
 have HNN := Lib.hid hN
 rw [hN] at hb ⊢
 have hN0 : 0 < N := by omega
 have hFb : F <= 1000000000 := by omega
 clear H hF hN
 go_enter Tryz.func116, Tryz.ntmps116
 go_wp2_with (at_builtin; refine Byt.wpList_ab_append_zeros rfl (.tmp 14) (.tmp 15) rfl H0.out 0 rfl rfl m rfl (by rw [HNN.out]; exact hb) N HNN.out ?_; intro a1 c1 w1 h1; simp only [List.set_cons_zero] at h1; obtain ⟨g, rfl, hx1⟩ := ab_byte h1 0 rfl 0 hN0; clear hx1; have H1 := Lib.hid h1; clear h1)
 have hcN : N <= c1 := (ab_len H1.out 0 rfl).2.1
 go_loopw [7] (fun v7 wr => ∃ t : Nat, t <= m /\ v7 = .int .i64 ((k + t : Nat) : Int) /\ (d ∣ t \/ t = m) /\ Own.St B w0 wr (AB (some ⟨g, 0, none⟩) N c1 (copyN out d t ++ List.replicate (m - t) 0) :: Ps)) (fun v7 _ => N - (intOf v7).toNat)
 case atStart => exact ⟨0, Nat.zero_le _, rfl, .inl (Nat.dvd_zero d), H1.out⟩
 case round =>
  obtain ⟨t, htm, rfl, hdiv, H⟩ := hrel
  have H := Lib.hid H
  clear H1
  obtain ⟨p, hp⟩ : ∃ p, p = k + t := ⟨_, rfl⟩
  rw [<- hp]
  have HP := Lib.hid hp
  have hNk := HNN.out
  by_cases ht : p < N
  · have hdt : d ∣ t := by
     rcases hdiv with h | h
     · exact h
     · omega
    obtain ⟨full, hfull⟩ : ∃ f, f = copyN out d t ++ List.replicate (m - t) 0 := ⟨_, rfl⟩
    rw [<- hfull] at H
    obtain ⟨c, hc⟩ : ∃ c, c = min (p - F) (N - p) := ⟨_, rfl⟩
    have hlen : (copyN out d t).length = p := by rw [copyN_len, HOL.out, hp]
    have hfl : full.length = N := (ab_len H.out 0 rfl).1
    have hcp : 1 <= c := by omega
    have hcN2 : p + c <= N := by omega
    have hct : c <= t + d := by have := HFF.out; omega
    obtain ⟨news, hnews⟩ : ∃ n, n = (full.drop F).take c := ⟨_, rfl⟩
    have hnl : news.length = c := by rw [hnews, List.length_take, List.length_drop, hfl]; omega
    have hne : news = ((copyN out d t).drop (out.length - d)).take c := by
     rw [hnews, hfull, List.drop_append_of_le_length (by rw [hlen]; omega), List.take_append_of_le_length (by rw [List.length_drop, hlen]; omega), HFF.out, HOL.out]
    have hres : full.take p ++ news ++ full.drop (p + news.length) = copyN out d (t + c) ++ List.replicate (m - (t + c)) 0 := by
     rw [copyN_block d hd out (by rw [HOL.out]; exact hdk) t c hdt hct, hne, hfull]
     rw [hne] at hnl
     rw [hnl]
     congr 1
     · congr 1
       rw [<- hlen, List.take_left]
     · rw [<- hlen, List.drop_append, List.drop_eq_nil_of_le (by omega), List.nil_append, List.drop_replicate]
       congr 1
       omega
    have hv := vtake (vdrop (ab_view H.out.drew 0 rfl) F) c
    rw [<- hnews, Nat.zero_add] at hv
    have HC := Lib.hid (vcells hv _ rfl)
    have HNL := Lib.hid (show news.length = min (p - F) (N - p) by rw [hnl, hc])
    have HRES := Lib.hid hres
    have hpc1 : ¬ c1 = p := by omega
    have hpc2 : ¬ c1 = F := by omega
    have hpp : p <= N := by omega
    have hpp1 : p <= c1 := by omega
    obtain ⟨pc, hpc⟩ : ∃ pc, p + c = pc := ⟨_, rfl⟩
    have HPC := Lib.hid hpc
    have hwr : IntKind.i64.wrap ((p : Int) + (c : Int)) = (pc : Int) := by rw [IntKind.wrap_i64]; omega
    clear hpc
    have hFp : F <= p := by omega
    have HQ : Hid (goInt news.length = .int .i64 (c : Int)) := by show goInt news.length = _; rw [hnl]; rfl
    have HCC := Lib.hid hnl
    have HDT := Lib.hid hdt
    clear hne hres hnl hnews hfull hc hlen hv hdiv hdt hfl hp
    go_wp2
    go_region_law (refine step_ab_copy rfl (.tmp 24) (.tmp 28) rfl H.out.drew 0 rfl p (N - p) (c1 - p) (by simp [Act.eval, Act.put]) (by omega) ⟨g, F, none⟩ (p - F) (c1 - F) news (by simp [Act.eval, Act.put]) HNL.out HC.out ?_; intro w2 h2; simp only [List.set_cons_zero] at h2; rw [HQ.out]; have H2 := Lib.hid h2; clear h2)
    all_goals
     go_simp
     go_wp2
     go_roundw
     case rel =>
      have h1 := HP.out
      have h2 := HNL.out
      have h3 := HCC.out
      have h4 := HFF.out
      have h5 := HNN.out
      have h6 := HPC.out
      rw [h3] at h2
      refine ⟨t + c, by omega, by simp only [Value.int.injEq, true_and]; omega, ?_, by rw [<- HRES.out]; exact H2.out⟩
      rcases Nat.lt_or_ge (t + c) m with h | h
      · left
        obtain ⟨q, hq⟩ := HDT.out
        exact ⟨2 * q + 1, by rw [Nat.mul_add, Nat.mul_one, Nat.mul_left_comm, <- hq]; omega⟩
      · exact .inr (by omega)
     case measure =>
      have := HPC.out
      simp [intOf]
      omega
  · have htm2 : t = m := by have := HNN.out; have := HP.out; omega
    have H2 : Hid (Own.St B w0 wr (AB (some ⟨g, 0, none⟩) N c1 (copyN out d m) :: Ps)) := by
     have h := H.out
     rw [htm2, Nat.sub_self, List.replicate_zero, List.append_nil] at h
     exact h
    clear H hdiv htm2
    go_wp2
    go_ret
    exact ⟨_, _, rfl, H2.out⟩
end Lz
end Go.Proofs.YtahjjcmeocibbaaGreatDoor
end
section
namespace Go.Proofs.YtahjjcmeocibbaaGreatDoor
open Go.RowKit Go.Own
namespace Lz
open Go.MatM Go.LzM Byt
def itemV (a b c d : Nat) : Value := .agg #[.int .i64 (a : Int), .int .i64 (b : Int), .int .i64 (c : Int), .int .i64 (d : Int)]
theorem heap_first (w : World) (o o' : Obj) : ((w.alloc o).alloc o').heap[w.heap.size]? = some o := (Below.heap_alloc _ _ _ (by simp)).trans (heap_alloc_new w o)
theorem infoItem : (Tryz.prog.info? 156).map (·.size) = some 4 := by kernel_rfl
theorem two_below (w : World) (o o' : Obj) : Below w.heap.size w ((w.alloc o).alloc o') := ((Below.refl _ w).alloc (Nat.le_refl _) _).alloc (by simp) _
def itemR (n : Nat) (c d : UInt8) : Value := if c.toNat < 128 then (if n < c.toNat + 2 then itemV 0 0 0 0 else itemV 2 (c.toNat + 2) (c.toNat + 1) 0) else (if n < 2 then itemV 0 0 0 0 else itemV 1 2 (c.toNat - 125) (d.toNat + 1))
set_option maxRecDepth 10000 in
set_option maxHeartbeats 4000000 in
theorem first_lit (ao : Option Addr) (n cap : Nat) (p : Bs) (w : World) (hg : Given w ao n cap p) (hb : n <= 1000000) (h0 : 1 <= n) (c : UInt8) (hc : p.getD 0 0 = c) (hl : c.toNat < 128) :
 Calls Tryz.prog 83 #[.slice ao n cap] w fun e w' => e = .returned (if n < c.toNat + 2 then itemV 0 0 0 0 else itemV 2 (c.toNat + 2) (c.toNat + 1) 0) /\ Below w.heap.size w w' := by
 obtain ⟨gb, go, rfl, _, hlt, hc0⟩ := vat hg.view (k := 0) (by rw [hg.size]; omega)
 rw [hc, Nat.add_zero] at hc0
 obtain ⟨q, hq⟩ : ∃ q, c.toNat + 2 = q := ⟨_, rfl⟩
 obtain ⟨r, hr⟩ : ∃ r, c.toNat + 1 = r := ⟨_, rfl⟩
 have e1 : (c.toNat : Int) + 2 = (q : Int) := by omega
 have e2 : (c.toNat : Int) + 1 = (r : Int) := by omega
 have hli : (c.toNat : Int) < 128 := by omega
 rw [hq, hr]
 clear hg hc hq hr
 by_cases hnq : n < q
 · rw [if_pos hnq]
   go_enter Tryz.func83, Tryz.ntmps83
   go_wp2
   refine bodyPost_ret (results_cell_row rfl _ _ w.heap.size 156 _ (0, 0) _ rfl (heap_first w _ _) Tryz.underlying156 rfl infoItem) rfl ⟨rfl, two_below w _ _⟩
 · rw [if_neg hnq]
   go_enter Tryz.func83, Tryz.ntmps83
   go_wp2
   refine bodyPost_ret (results_cell_row rfl _ _ w.heap.size 156 _ (0, 0) _ rfl (heap_first w _ _) Tryz.underlying156 rfl infoItem) rfl ⟨rfl, two_below w _ _⟩
set_option maxRecDepth 10000 in
set_option maxHeartbeats 4000000 in
theorem first_ref (ao : Option Addr) (n cap : Nat) (p : Bs) (w : World) (hg : Given w ao n cap p) (hb : n <= 1000000) (h0 : 1 <= n) (c d : UInt8) (hc : p.getD 0 0 = c) (hd : p.getD 1 0 = d) (hl : ¬ c.toNat < 128) :
 Calls Tryz.prog 83 #[.slice ao n cap] w fun e w' => e = .returned (if n < 2 then itemV 0 0 0 0 else itemV 1 2 (c.toNat - 125) (d.toNat + 1)) /\ Below w.heap.size w w' := by
 have hV := hg.view
 obtain ⟨gb, go, rfl, _, hlt, hc0⟩ := vat hV (k := 0) (by rw [hg.size]; omega)
 rw [hc, Nat.add_zero] at hc0
 obtain ⟨q, hq⟩ : ∃ q, c.toNat + 2 = q := ⟨_, rfl⟩
 obtain ⟨r, hr⟩ : ∃ r, c.toNat + 1 = r := ⟨_, rfl⟩
 obtain ⟨m, hm⟩ : ∃ m, c.toNat - 125 = m := ⟨_, rfl⟩
 have e1 : (c.toNat : Int) + 2 = (q : Int) := by omega
 have e2 : (c.toNat : Int) + 1 = (r : Int) := by omega
 have e3 : (c.toNat : Int) - 128 + 3 = (m : Int) := by omega
 have hli : ¬ (c.toNat : Int) < 128 := by omega
 have hc8 : c.toNat <= 255 := by have := c.toNat_lt; omega
 rw [hm]
 by_cases hn2 : n < 2
 · rw [if_pos hn2]
   clear hg hc hq hr hd hm hV
   have hn2i : (n : Int) < 2 := by omega
   go_enter Tryz.func83, Tryz.ntmps83
   go_wp2
   refine bodyPost_ret (results_cell_row rfl _ _ w.heap.size 156 _ (0, 0) _ rfl (heap_first w _ _) Tryz.underlying156 rfl infoItem) rfl ⟨rfl, two_below w _ _⟩
 · rw [if_neg hn2]
   have hc1 := vcell hV (k := 1) (by rw [hg.size]; omega)
   rw [hd] at hc1
   obtain ⟨D, hD⟩ : ∃ D, d.toNat + 1 = D := ⟨_, rfl⟩
   have e4 : (d.toNat : Int) + 1 = (D : Int) := by omega
   have hd8 : d.toNat <= 255 := by have := d.toNat_lt; omega
   have hn2i : ¬ (n : Int) < 2 := by omega
   have hn1 : 1 < n := by omega
   have hn1i : (1 : Int) < n := by omega
   rw [hD]
   clear hg hc hq hr hd hm hV hD
   go_enter Tryz.func83, Tryz.ntmps83
   go_wp2
   refine bodyPost_ret (results_cell_row rfl _ _ w.heap.size 156 _ (0, 0) _ rfl (heap_first w _ _) Tryz.underlying156 rfl infoItem) rfl ⟨rfl, two_below w _ _⟩
theorem first_any (ao : Option Addr) (n cap : Nat) (p : Bs) (w : World) (hg : Given w ao n cap p) (hb : n <= 1000000) (h0 : 1 <= n) (c d : UInt8) (hc : p.getD 0 0 = c) (hd : p.getD 1 0 = d) :
 Calls Tryz.prog 83 #[.slice ao n cap] w fun e w' => e = .returned (itemR n c d) /\ Below w.heap.size w w' := by
 unfold itemR
 by_cases hl : c.toNat < 128
 · rw [if_pos hl]; exact first_lit ao n cap p w hg hb h0 c hc hl
 · rw [if_neg hl]; exact first_ref ao n cap p w hg hb h0 c d hc hd hl
set_option maxRecDepth 10000 in
set_option maxHeartbeats 4000000 in
theorem putB_lit {B : Nat} {w0 w : World} {Ps : List Asn} {ax : Option Addr} {k cx : Nat} {out : Bs} {ab : Option Addr} {n cap : Nat} {p : Bs} (H : Own.St B w0 w (AB ax k cx out :: Ps)) (hV : View w (fun k => k < B) ab p) (hn : p.length = n) (hc : n <= cap) (hcm : cap <= maxLen) (hno : ab = none -> cap = 0) (q r : Nat) (hq : q <= n) (hq1 : 1 <= q) (hb : k + q <= 1000000000) :
 Calls Tryz.prog 84 #[.slice ax k cx, itemV 2 q r 0, .slice ab n cap] w fun e w' => ∃ a' c', e = .returned (.slice a' (k + (q - 1)) c') /\ Own.St B w0 w' (AB a' (k + (q - 1)) c' (out ++ (p.take q).drop 1) :: Ps) := by
 obtain ⟨am, cm, hM1, hM2⟩ := cutMid (ao := ab) (l := p) (m := n) (cap := cap) 1 q hn hq1 hq hc hcm hno
 obtain ⟨s, hs⟩ : ∃ s, q - 1 = s := ⟨_, rfl⟩
 rw [hs] at hM1 hM2 ⊢
 have H1 := Lib.hid (H.alloc (.cells #[.int .i64 2, .int .i64 (q : Int), .int .i64 (r : Int), .int .i64 0] 156))
 have HC := Lib.hid (vcells (hM2.view _ _ (View.below hV (((Below.refl _ w).alloc H.size (.cells #[.int .i64 2, .int .i64 (q : Int), .int .i64 (r : Int), .int .i64 0] 156))))))
 have CM1 := Lib.hid hM1
 have CM2 := Lib.hid hM2
 have hbs : k + s <= 1000000000 := by omega
 clear H hV hM1 hM2 hs
 unfold itemV
 go_enter Tryz.func84, Tryz.ntmps84
 go_wp2_with (first
  | (refine Byt.wpList_val rfl (CM1.out _ (.tmp 11) (.const (.int .i64 1)) (.tmp 13) rfl _ _ rfl rfl rfl) ?_)
  | (at_builtin; refine Byt.wpList_ab_append rfl (.tmp 10) (.tmp 14) rfl H1.out 0 rfl rfl am s cm _ rfl (fun e => ⟨by have := CM2.out.none e; have := CM2.out.cap; omega, CM2.out.none e⟩) CM2.out.len HC.out hbs ?_; intro a4 c4 w4 h4; simp only [List.set_cons_zero] at h4; have H4 := Lib.hid h4; clear h4))
 go_ret
 exact ⟨_, _, rfl, H4.out⟩
set_option maxRecDepth 10000 in
set_option maxHeartbeats 4000000 in
theorem putB_ref {B : Nat} {w0 w : World} {Ps : List Asn} {ax : Option Addr} {k cx : Nat} {out : Bs} {v : Value} (H : Own.St B w0 w (AB ax k cx out :: Ps)) (d m : Nat) (hd : 1 <= d) (hdk : d <= k) (hb : k + m <= 1000000000) :
 Calls Tryz.prog 84 #[.slice ax k cx, itemV 1 2 m d, v] w fun e w' => ∃ a' c', e = .returned (.slice a' (k + m) c') /\ Own.St B w0 w' (AB a' (k + m) c' (copyN out d m) :: Ps) := by
 have H1 := H.alloc (.cells #[.int .i64 1, .int .i64 2, .int .i64 (m : Int), .int .i64 (d : Int)] 156)
 have C := Lib.hid (repeat_st H1 d m hd hdk hb)
 clear H H1
 unfold itemV
 go_enter Tryz.func84, Tryz.ntmps84
 go_wp2_with (fail)
 refine C.out.mono ?_
 clear C
 rintro e w' ⟨a', c', rfl, h⟩
 have HH := Lib.hid h
 clear h
 go_wp2_with (fail)
 go_ret
 exact ⟨_, _, rfl, HH.out⟩
end Lz
end Go.Proofs.YtahjjcmeocibbaaGreatDoor
end
section
namespace Go.Proofs.YtahjjcmeocibbaaGreatDoor
open Go.RowKit Go.Own
namespace Lz
open Go.MatM Go.LzM Byt
theorem reads_nil (w w' : World) (h : Below w.heap.size w w') : Reads [] w (.slice none 0 0) w' := ⟨none, 0, rfl, ⟨.inl rfl, rfl, ⟨Nat.le_refl _, Nat.zero_le _⟩, fun _ => rfl⟩, h⟩
def UnDone (x : Bs × Nat) (w : World) (e : Ending) (w' : World) : Prop := ∃ v, e = .returned (.tuple #[v, .int .i64 (x.2 : Int)]) /\ Reads x.1 w v w'
theorem un_err (x : Bs × Nat) (k : Nat) (hx : x = ([], k)) {w w' : World} (h : Below w.heap.size w w') : UnDone x w (.returned (.tuple #[.slice none 0 0, .int .i64 (k : Int)])) w' := by
 subst hx
 exact ⟨_, rfl, reads_nil w w' h⟩
end Lz
end Go.Proofs.YtahjjcmeocibbaaGreatDoor
end
section
namespace Go.Own
open Go.RowKit
def Asn.cellish (P : Asn) : Prop := ∀ (S : Nat -> Prop) (w : World), P.holds S w -> ∀ k, S k -> ∃ o : Obj, w.heap[k]? = some o /\ o.isCells = true
theorem Apart.cellish {w : World} : ∀ {Ps : List Asn} {S : Nat -> Prop}, Apart w Ps S -> (∀ P ∈ Ps, P.cellish) -> ∀ k, S k -> ∃ o : Obj, w.heap[k]? = some o /\ o.isCells = true
 | [], _, h, _, k, hk => absurd hk (h k)
 | P :: _, _, ⟨_, _, h1, h2, _, h4⟩, hc, k, hk => ((h4 k).1 hk).elim (hc P (by simp) _ _ h1 k) (fun h => h2.cellish (fun Q hQ => hc Q (by simp [hQ])) k h)
theorem St.abide {B : Nat} {w0 W W' : World} {Ps : List Asn} {row : Option Nat} (h : St B w0 W Ps) (hc : ∀ P ∈ Ps, P.cellish) (hg : W.grownBy W' row) (hr : ∀ r, row = some r -> B <= r /\ ∃ o : Obj, W.heap[r]? = some o /\ o.isCells = false) : St B w0 W' Ps := by
 obtain ⟨hb, hs, S, ha, hB⟩ := h
 have hst : Step (fun k => row = some k) (fun _ => False) W W' := ⟨hg.os, hg.tape, hg.output, hg.size, fun k hk hn => hg.block k hk (fun e => hn e.symm), fun _ h => h.elim⟩
 refine ⟨hb.trans (hst.below hs (fun k e => (hr k e).1)), Nat.le_trans hs hg.size, S, ha.keep hst (fun k hk e => ?_), hB⟩
 obtain ⟨o, ho, hoc⟩ := ha.cellish hc k hk
 obtain ⟨_, o', ho', hoc'⟩ := hr k e
 rw [ho] at ho'
 cases ho'
 rw [hoc] at hoc'
 cases hoc'
theorem ARow.cellish (e : TypeId) (size : Nat) (v : Value) (n : Nat) (xs : List Value) : (ARow e size v n xs).cellish := by
 intro S w h k hk
 have hv := (h.set k).1 hk
 rcases h.own.2 with ⟨rfl, _⟩ | ⟨g, cap, cur, rfl, _, hb, _⟩
 · cases hv
 · obtain rfl : g = k := by simpa [Value.ownBlock] using hv
   exact ⟨_, hb, rfl⟩
theorem ABlk.cellish (b : Nat) (c : Array Value) (t : TypeId) (fz : Nat × Nat) : (ABlk b (.cells c t fz)).cellish := by
 intro S w h k hk
 rw [(h.2 k).1 hk]
 exact ⟨_, h.1, rfl⟩
end Go.Own
namespace Go.Proofs.YtahjjcmeocibbaaGreatDoor
open Go.RowKit Go.Own Go.Shelf
attribute [local go_sem] Oper.semAt_some
namespace Lz
open Go.MatM Go.LzM Byt
def nch (n : Nat) : Nat := (n + 127) / 128
def chl (n j : Nat) : Nat := min 128 (n - 128 * j)
def come (N k : Nat) : List (Fin N) := (List.finRange N).take k
theorem come_succ (N k : Nat) (h : k < N) : come N (k + 1) = come N k ++ [⟨k, h⟩] := by
 unfold come
 rw [List.take_add_one, List.getElem?_eq_getElem (by simpa using h)]
 simp
theorem come_length (N k : Nat) (h : k <= N) : (come N k).length = k := by simp [come, h]
theorem come_all (N : Nat) : come N N = List.finRange N := List.take_of_length_le (by simp)
def KC (Bs Bn : Nat) (W W' : World) : Prop := W'.heap[Bs]? = W.heap[Bs]? /\ W'.heap[Bn]? = W.heap[Bn]?
theorem KC.refl (Bs Bn : Nat) (W : World) : KC Bs Bn W W := ⟨rfl, rfl⟩
theorem KC.trans {Bs Bn : Nat} {A B C : World} (h : KC Bs Bn A B) (k : KC Bs Bn B C) : KC Bs Bn A C := ⟨k.1.trans h.1, k.2.trans h.2⟩
theorem KC.box1 {Bs Bn : Nat} {A B : World} (h : KC Bs Bn A B) {v : Value} (hc : A.cell? ⟨Bs, 0, none⟩ = some v) : B.cell? ⟨Bs, 0, none⟩ = some v := by
 rw [<- hc]; unfold World.cell?; simp only [h.1]
theorem KC.box2 {Bs Bn : Nat} {A B : World} (h : KC Bs Bn A B) {v : Value} (hc : A.cell? ⟨Bn, 0, none⟩ = some v) : B.cell? ⟨Bn, 0, none⟩ = some v := by
 rw [<- hc]; unfold World.cell?; simp only [h.2]
theorem KC.drewN {Bs Bn : Nat} {A B : World} (h : KC Bs Bn A B) (n : Nat) : KC Bs Bn A (B.drewN n) := h
set_option maxRecDepth 100000 in
set_option maxHeartbeats 4000000 in
theorem chunk1_in (n : Nat) (hn : 1 <= n) (l Bs Bn b off len cap : Nat) (hlc : len <= cap) (hreach : len <= 1000000000) (hcap : cap <= maxLen) (J Jx : List (Fin (nch len)) -> World -> Prop) (hJd : ∀ pre W n, J pre W -> J pre (W.drewN n))
 (hY : ∀ pre x W, J pre W -> pre.length < nch len -> YieldAt Fence.wide (n - 1) Tryz.prog l #[.slice (some ⟨b, off + 128 * x.1, none⟩) (chl len x.1) (chl len x.1)] W fun e W' =>
  (e = .returned (.bool true) /\ J (pre ++ [x]) W' /\ KC Bs Bn W W') \/ (e = .returned (.bool false) /\ Jx (pre ++ [x]) W'))
 (W : World) (hBs : W.cell? ⟨Bs, 0, none⟩ = some (.slice (some ⟨b, off, none⟩) len cap)) (hBn : W.cell? ⟨Bn, 0, none⟩ = some (.int .i64 128)) (h0 : J [] W) :
 CallsIn Fence.wide n Tryz.prog 128 #[.func (.yield l) #[] #[], .pointer (some ⟨Bs, 0, none⟩), .pointer (some ⟨Bn, 0, none⟩)] W fun e W' => (∃ v, e = .returned v) /\
  ((∃ ys, ys = come (nch len) (nch len) /\ J ys W') \/ (∃ pre, True /\ Jx pre W')) := by
 unfold maxLen at hcap
 refine callsIn_of_wp Tryz.func128 rfl trivial ?_ rfl
 simp only [Tryz.ntmps128, List.size_toArray, List.length_cons, List.length_nil, Nat.reduceAdd, Nat.reduceSub, Array.replicate_succ, Array.replicate_zero, List.push_toArray, List.append_toArray, List.nil_append, List.cons_append]
 gi_wp2
 gi_loopw [4] (fun i wr => ∃ k p : Nat, k <= nch len /\ p = 128 * k /\ i = .int .i64 (p : Int) /\ J (come (nch len) k) wr /\ KC Bs Bn W wr)
  (fun i _ => (len + 128) - (intOf i).toNat)
 case atStart => exact ⟨0, 0, Nat.zero_le _, rfl, rfl, h0, KC.refl _ _ _⟩
 case round =>
  obtain ⟨k, p, hk, hp, rfl, hJs, hnx⟩ := hrel
  have hBr := hnx.box1 hBs
  have hBq := hnx.box2 hBn
  by_cases hlt : k < nch len
  · have hpl : p < len := by unfold nch at hlt; omega
    obtain ⟨m, hm⟩ : ∃ m, m = chl len k := ⟨_, rfl⟩
    have hm1 : m <= 128 := by rw [hm]; unfold chl; omega
    have hm2 : p + m <= len := by rw [hm]; unfold chl; omega
    have hm0 : 0 < m := by rw [hm]; unfold chl; omega
    have hmin : min (128 : Int) ((len - p : Nat) : Int) = (m : Int) := by rw [hm]; unfold chl; omega
    have hmin2 : min (128 : Int) ((len : Int) - (p : Int)) = (m : Int) := by omega
    have hY' := fun n => hY _ ⟨k, hlt⟩ (wr.drewN n) (hJd _ _ n hJs) (by rw [come_length _ _ hk]; exact hlt)
    dsimp only at hY'
    obtain ⟨q, hq⟩ : ∃ q, q = p + m := ⟨_, rfl⟩
    have hpq : (p : Int) + (m : Int) = (q : Int) := by omega
    have hqc : q <= cap := by omega
    have hmq : m = q - p := by omega
    rw [<- hm, <- hp, hmq] at hY'
    have hpq1 : p <= q := by omega
    have HYY := Lib.hid hY'
    clear hY' hq
    have HP := Lib.hid (And.intro hp hk)
    have HN := Lib.hid hnx
    have HM := Lib.hid hm
    have hpc : ¬ cap = p := by omega
    clear hm hp hk hnx hJs hmq
    gi_wp2
    gi_quiet (fail)
    obtain ⟨fn, tmps, assign, body, hy, hR⟩ := HYY.out nq
    have HR := Lib.hid hR
    clear hR
    gi_wp2
    refine HR.out.mono ?_
    rintro e W3 (⟨rfl, hJ3, hk3⟩ | ⟨rfl, hJx3⟩)
    · have hB3 := (KC.trans (HN.out.drewN _) hk3).box2 hBn
      have HJ := Lib.hid hJ3
      have HK3 := Lib.hid (KC.trans (HN.out.drewN _) hk3)
      have HLT := Lib.hid hpl
      clear hJ3 hk3 hy HR hpq hmin hmin2 hqc hpc hBr hBq hm1 hm2 hm0 hpq1 hBs hBn hY
      gi_wp2
      go_roundw
      case rel =>
       refine ⟨k + 1, p + 128, by omega, by have := HP.out.1; omega, by go_num, ?_, HK3.out⟩
       rw [come_succ _ _ hlt]
       exact HJ.out
      case measure => simp [intOf]; omega
    · have HJ := Lib.hid hJx3
      clear hJx3 hy HR hpq hmin hmin2 hqc hpc hBr hBq hm1 hm2 hm0 hpq1 hBs hBn hY
      gi_wp2
      refine bodyPost_ret (results_none rfl _ _ _) rfl ?_
      exact ⟨⟨_, rfl⟩, .inr ⟨_, trivial, HJ.out⟩⟩
  · have hke : k = nch len := by omega
    have hpl : len <= p := by rw [hp, hke]; unfold nch; omega
    subst hke
    have HJ := Lib.hid hJs
    clear hp hJs hnx
    gi_wp2
    go_end0
    exact ⟨⟨_, rfl⟩, .inl ⟨_, rfl, HJ.out⟩⟩
end Lz
end Go.Proofs.YtahjjcmeocibbaaGreatDoor
end
section
namespace Go.Own
open Go.RowKit
theorem Step.keepsOthers {S T : Nat -> Prop} {w w' : World} (h : Step S T w w') (hc : ∀ k, S k -> ∃ o : Obj, w.heap[k]? = some o /\ o.isCells = true) : KeepsOthers w w' :=
 ⟨h.size, fun k o hk ho => by
  refine (h.block k (Array.getElem?_eq_some_iff.1 hk).1 (fun hs => ?_)).trans hk
  obtain ⟨o', ho', hoc⟩ := hc k hs
  rw [hk] at ho'
  cases ho'
  rw [hoc] at ho
  cases ho⟩
end Go.Own
namespace Go.Proofs.YtahjjcmeocibbaaGreatDoor
open Go.RowKit Go.Own Go.Shelf
attribute [local go_sem] Oper.semAt_some
namespace Byt
section
variable {B : Nat} {w0 w : World} {Ps : List Asn} {ao : Option Addr} {n cap : Nat} {l : List UInt8}
theorem ab_append_others (H : St B w0 w Ps) (i : Nat) (hi : Ps[i]? = some (AB ao n cap l)) (ty : TypeId) (bo : Option Addr) (m c : Nat) (news : List UInt8) (hno : bo = none -> m = 0 /\ c = 0) (hl : news.length = m)
 (hc : ∀ a, bo = some a -> ∀ j u, (news.map byteV)[j]? = some u -> w.cell? (a.add j) = some u) (b1 : n + m <= 1000000000) :
 ∃ ao' cap' w', (Builtin.append_ #[37, 37] ty #[.slice ao n cap, .slice bo m c]).run Tryz.prog w = .ok (.slice ao' (n + m) cap') w' /\ St B w0 w' (Ps.set i (AB ao' (n + m) cap' (l ++ news))) /\ KeepsOthers w w' := by
 obtain ⟨i0, hi0, hz0, hz1, hz2⟩ := info_parts infoU8
 obtain ⟨S, hS, _, put⟩ := H.at i hi
 obtain ⟨v', w', T', hr, hrow, hst⟩ := run_append_row (P := Tryz.prog) w 37 ty 5 i0 (.int .u8 0) 1 1 Tryz.underlying37 hi0 hz0 hz1 hz2 rfl (by decide) (.slice ao n cap) n (l.map byteV) hS bo m c (news.map byteV) hno (by rw [List.length_map, hl, Nat.mul_one]) hc (byteV_one _) (by unfold maxLen; omega) (by omega)
 obtain ⟨ao', cap', rfl, _⟩ := hrow.form
 rw [<- List.map_append] at hrow
 exact ⟨ao', cap', w', hr, put T' w' (AB ao' (n + m) cap' (l ++ news)) hrow hst, hst.keepsOthers (fun k hk => ARow.cellish _ _ _ _ _ S w hS k hk)⟩
theorem wpListIn_ab_append {F : Fence} {d : Nat} {ops : Array Oper} {rest : List Oper} {o : Oper} {a : Act} {Q : Exit -> Act -> World -> Prop} (hgd : o.guard = none) (s x : Operand)
 (ho : o.op = .call { callee := .builtin .append, args := #[s, x], argTypes := #[37, 37] }) (H : St B w0 w Ps) (i : Nat) (hi : Ps[i]? = some (AB ao n cap l)) (hs : a.eval s = .slice ao n cap)
 (bo : Option Addr) (m c : Nat) (news : List UInt8) (hx : a.eval x = .slice bo m c) (hno : bo = none -> m = 0 /\ c = 0) (hl : news.length = m)
 (hc : ∀ a, bo = some a -> ∀ j u, (news.map byteV)[j]? = some u -> w.cell? (a.add j) = some u) (b1 : n + m <= 1000000000)
 (h : ∀ ao' cap' w', St B w0 w' (Ps.set i (AB ao' (n + m) cap' (l ++ news))) -> KeepsOthers w w' -> wpListIn F d Tryz.prog ops Q rest (a.put o.dst (.slice ao' (n + m) cap')) w') : wpListIn F d Tryz.prog ops Q (o :: rest) a w := by
 refine wpListIn_plain hgd fun K hK => ?_
 obtain ⟨ao', cap', w', hrun, h1, h2⟩ := ab_append_others H i hi o.type bo m c news hno hl hc b1
 unfold Oper.wpIn
 refine ⟨?_, ?_⟩
 · simp [Oper.about, ho, resolve, Target.leads, Sem.run_pure]
 · rw [Oper.semAt_plain F _ _ (by rw [ho]; intro c hc'; cases hc')]
   simp [execOp, ho, resolve, invoke, builtin, hs, hx, hrun, Result.andThen]
   exact hK _ _ (h ao' cap' w' h1 h2)
end
end Byt
namespace Lz
open Go.MatM Go.LzM Byt
def partV (ao : Option Addr) (n j : Nat) : Value := .slice (ao.map fun a => a.add (128 * j)) (chl n j) (chl n j)
set_option maxRecDepth 100000 in
set_option maxHeartbeats 1000000 in
theorem chunk0_in (n l Bs Bn : Nat) (ao : Option Addr) (cap : Nat) (J : List (Fin (nch 0)) -> World -> Prop) (W : World) (hBs : W.cell? ⟨Bs, 0, none⟩ = some (.slice ao 0 cap)) (h0 : J [] W) :
 CallsIn Fence.wide n Tryz.prog 128 #[.func (.yield l) #[] #[], .pointer (some ⟨Bs, 0, none⟩), .pointer (some ⟨Bn, 0, none⟩)] W fun e W' => (∃ v, e = .returned v) /\ J [] W' := by
 refine callsIn_of_wp Tryz.func128 rfl trivial ?_ rfl
 simp only [Tryz.ntmps128, List.size_toArray, List.length_cons, List.length_nil, Nat.reduceAdd, Nat.reduceSub, Array.replicate_succ, Array.replicate_zero, List.push_toArray, List.append_toArray, List.nil_append, List.cons_append]
 gi_wp2
 gi_loopw [4] (fun i wr => i = .int .i64 0 /\ J [] wr /\ wr = W) (fun _ _ => 0)
 case atStart => exact ⟨rfl, h0, rfl⟩
 case round =>
  obtain ⟨rfl, hJs, rfl⟩ := hrel
  gi_wp2
  go_end0
  exact ⟨⟨_, rfl⟩, hJs⟩
set_option maxHeartbeats 1000000 in
theorem chunk_in (n : Nat) (a : Option Addr) (len cap : Nat) (w : World) :
 CallsIn Fence.wide n Tryz.prog 103 #[.slice a len cap, .int .i64 128] w fun e w' => e = .returned (.func (.func 128) #[] #[.pointer (some ⟨w.heap.size, 0, none⟩), .pointer (some ⟨w.heap.size + 1, 0, none⟩)]) /\ w' = (w.alloc (.cells #[.slice a len cap] 37)).alloc (.cells #[.int .i64 128] 3) := by
 refine callsIn_of_wp Tryz.func103 rfl trivial ?_ rfl
 simp only [Tryz.ntmps103, List.size_toArray, List.length_cons, List.length_nil, Nat.reduceAdd, Nat.reduceSub, Array.replicate_succ, Array.replicate_zero, List.push_toArray, List.append_toArray, List.nil_append, List.cons_append]
 gi_wp2
 go_ret
 exact ⟨rfl, rfl⟩
theorem grownBy_drewN (W : World) (n : Nat) : W.grownBy (W.drewN n) none := ⟨rfl, rfl, rfl, Nat.le_refl _, fun _ _ _ => rfl⟩
theorem chunk_stops (n : Nat) (hn : 1 <= n) (Bs Bn : Nat) (ao : Option Addr) (len cap : Nat) (hao : len = 0 \/ ∃ b o, ao = some ⟨b, o, none⟩) (hlc : len <= cap) (hreach : len <= 1000000000) (hcap : cap <= maxLen) (w : World) (hB1 : Bs < w.heap.size) (hB2 : Bn < w.heap.size)
 (hc1 : w.cell? ⟨Bs, 0, none⟩ = some (.slice ao len cap)) (hc2 : w.cell? ⟨Bn, 0, none⟩ = some (.int .i64 128)) :
 SeqStopsK Fence.wide n Tryz.prog 128 #[.pointer (some ⟨Bs, 0, none⟩), .pointer (some ⟨Bn, 0, none⟩)] (fun x : Fin (nch len) => #[partV ao len x.1]) (KC Bs Bn) (fun ys => ys = List.finRange (nch len)) (fun _ => True) (nch len) w :=
 fun l J Jx W hW hJ _ hY h0 => by
 have d1 := (hW.cell (p := ⟨Bs, 0, none⟩) hB1).trans hc1
 have d2 := (hW.cell (p := ⟨Bn, 0, none⟩) hB2).trans hc2
 rcases hao with rfl | ⟨b, o, rfl⟩
 · exact (chunk0_in n l Bs Bn ao cap J W d1 h0).mono fun e W' ⟨he, hj⟩ => ⟨he, .inl ⟨_, rfl, hj⟩⟩
 · refine (chunk1_in n hn l Bs Bn b o len cap hlc hreach hcap J Jx (fun pre W n h => hJ pre W _ none h (grownBy_drewN W n) (fun r e => by cases e)) ?_ W d1 d2 h0).mono ?_
   · intro pre x W1 hp hl
     have h := hY pre x W1 hp hl
     unfold partV at h
     simp only [Option.map_some, add_of] at h
     exact h
   · rintro e W' ⟨he, ⟨ys, rfl, hj⟩ | ⟨pre, _, hj⟩⟩
     · exact ⟨he, .inl ⟨_, come_all _, hj⟩⟩
     · exact ⟨he, .inr ⟨pre, trivial, hj⟩⟩
def partB (l : Bs) (j : Nat) : Bs := UInt8.ofNat (chl l.length j - 1) :: (l.drop (128 * j)).take 128
theorem part_len (l : Bs) (j : Nat) : ((l.drop (128 * j)).take 128).length = chl l.length j := by
 unfold chl; rw [List.length_take, List.length_drop]
theorem nch_step (n : Nat) (h : n ≠ 0) : nch n = nch (n - 128) + 1 := by unfold nch; omega
theorem plain_parts : ∀ (k : Nat) (l : Bs), nch l.length = k -> plain l = (List.range k).flatMap (partB l) := by
 intro k
 induction k with
 | zero =>
  intro l h
  have : l.length = 0 := by unfold nch at h; omega
  rw [List.eq_nil_of_length_eq_zero this]; rfl
 | succ k ih =>
  intro l h
  have h0 : l.length ≠ 0 := by intro e; rw [e] at h; simp [nch] at h
  have h1 : nch (l.drop 128).length = k := by rw [nch_step _ h0] at h; rw [List.length_drop]; omega
  rw [plain_cons l h0, ih (l.drop 128) h1, List.range_succ_eq_map, List.flatMap_cons, List.flatMap_map]
  have e0 : partB l 0 = UInt8.ofNat (min l.length 128 - 1) :: l.take 128 := by
   unfold partB chl
   rw [Nat.mul_zero, Nat.sub_zero, List.drop_zero, Nat.min_comm]
  have e1 : partB (l.drop 128) = fun j => partB l (j + 1) := by
   funext j
   unfold partB chl
   rw [List.length_drop, List.drop_drop, show l.length - 128 - 128 * j = l.length - 128 * (j + 1) by omega, show 128 + 128 * j = 128 * (j + 1) by omega]
  rw [e0, List.cons_append, e1]
theorem plain_fin (l : Bs) : plain l = (List.finRange (nch l.length)).flatMap (fun x => partB l x.1) := by
 rw [plain_parts _ l rfl]
 have e : List.range (nch l.length) = (List.finRange (nch l.length)).map (fun x => x.1) := by
  apply List.ext_getElem
  · simp
  · intro i h1 h2
    simp
 rw [e, List.flatMap_map]
theorem partB_len (l : Bs) (x : Fin (nch l.length)) : (partB l x.1).length <= 129 := by
 unfold partB; rw [List.length_cons, part_len]; unfold chl; omega
theorem parts_len (l : Bs) : ∀ (pre : List (Fin (nch l.length))), (pre.flatMap (fun x => partB l x.1)).length <= 129 * pre.length
 | [] => Nat.le_refl _
 | x :: pre => by
  have := parts_len l pre
  have := partB_len l x
  rw [List.flatMap_cons, List.length_append, List.length_cons]
  omega
end Lz
end Go.Proofs.YtahjjcmeocibbaaGreatDoor
end
