/- CrcThree: the walk. -/
import Derived.Test.YthbipankdbfdjaaLaw2
import Derived.StillTailTactics
namespace Go.Proofs.Ythbipankdbfdjaa
open Go.RowKit Go.Own
namespace Crc
open Go.CrcM Cod

/-- three lists, xored -/
def x3 (a b c : List UInt8) (m : Nat) : List UInt8 := (List.range m).map fun j => a.getD j 0 ^^^ b.getD j 0 ^^^ c.getD j 0
theorem x3_len (a b c : List UInt8) (m : Nat) : (x3 a b c m).length = m := by simp [x3]
theorem x3_get (a b c : List UInt8) (m k : Nat) (hk : k < m) : (x3 a b c m).getD k 0 = a.getD k 0 ^^^ b.getD k 0 ^^^ c.getD k 0 := by simp [x3, hk]

theorem bit_take (a : List UInt8) (m i : Nat) (hi : i < 8 * m) : bitAt (a.take m) i = bitAt a i := by
  unfold bitAt
  have : i / 8 < m := by omega
  congr 2
  simp [List.getD, this]

theorem xor3 (a b c d e f : R) : (a ^^^ b ^^^ c) ^^^ (d ^^^ e ^^^ f) = (a ^^^ d) ^^^ (b ^^^ e) ^^^ (c ^^^ f) := by
  apply BitVec.eq_of_getLsbD_eq
  intro i hi
  simp only [BitVec.getLsbD_xor]
  cases a.getLsbD i <;> cases b.getLsbD i <;> cases c.getLsbD i <;> cases d.getLsbD i <;> cases e.getLsbD i <;> cases f.getLsbD i <;> rfl

theorem three (a b c : List UInt8) (m : Nat) (ha : m ≤ a.length) (hb : m ≤ b.length) (hc : m ≤ c.length) :
    msum 0 (a.take m) ^^^ msum 0 (b.take m) ^^^ msum 0 (c.take m) = msum 0 (x3 a b c m) := by
  have hbit : ∀ i, i < 8 * m → bitAt (x3 a b c m) i = ((bitAt a i ^^ bitAt b i) ^^ bitAt c i) := by
    intro i hi
    unfold bitAt
    rw [x3_get a b c m (i / 8) (by omega), UInt8.toNat_xor, UInt8.toNat_xor, Nat.testBit_xor, Nat.testBit_xor]
  have hr : ∀ l : List UInt8, m ≤ l.length → crun (~~~ 0) (l.take m) = rb (~~~ 0) (bitAt l) (8 * m) := by
    intro l hl
    rw [crun_bits, List.length_take, Nat.min_eq_left hl]
    exact rb_congr _ _ _ _ (fun i hi => bit_take l m i hi)
  have hx : crun (~~~ 0) (x3 a b c m) = crun (~~~ 0) (a.take m) ^^^ crun (~~~ 0) (b.take m) ^^^ crun (~~~ 0) (c.take m) := by
    rw [hr a ha, hr b hb, hr c hc, ← rb_xor, ← rb_xor, crun_bits, x3_len]
    have e : (~~~ (0 : R)) ^^^ ~~~ 0 ^^^ ~~~ 0 = ~~~ 0 := by decide
    rw [e]
    exact rb_congr _ _ _ _ (fun i hi => hbit i hi)
  unfold msum
  rw [hx]
  apply BitVec.eq_of_getLsbD_eq
  intro i hi
  simp only [BitVec.getLsbD_xor, BitVec.getLsbD_not, hi, decide_true, Bool.true_and]
  cases (crun (~~~ 0) (a.take m)).getLsbD i <;> cases (crun (~~~ 0) (b.take m)).getLsbD i <;> cases (crun (~~~ 0) (c.take m)).getLsbD i <;> rfl

/-- the first k of xs, the rest 0 -/
def mix (xs : List UInt8) (k m : Nat) : List UInt8 := xs.take k ++ List.replicate (m - k) 0
theorem mix_zero (xs : List UInt8) (m : Nat) : mix xs 0 m = List.replicate m 0 := by simp [mix]
theorem mix_all (xs : List UInt8) (m : Nat) (h : xs.length = m) : mix xs m m = xs := by simp [mix, ← h]
theorem mix_set (xs : List UInt8) (k m : Nat) (h : xs.length = m) (hk : k < m) : (mix xs k m).set k (xs.getD k 0) = mix xs (k + 1) m := by
  apply List.ext_getElem?
  intro i
  unfold mix
  rcases Nat.lt_trichotomy i k with hi | hi | hi
  · rw [List.getElem?_set_ne (by omega), List.getElem?_append_left (by simp; omega), List.getElem?_append_left (by simp; omega)]
    simp [List.getElem?_take, show i < k by omega, show i < k + 1 by omega]
  · subst hi
    rw [List.getElem?_set_self (by simp; omega), List.getElem?_append_left (by simp; omega)]
    simp [List.getElem?_take, show i < xs.length by omega]
  · have l1 : (xs.take k).length = k := by rw [List.length_take]; omega
    have l2 : (xs.take (k + 1)).length = k + 1 := by rw [List.length_take]; omega
    rw [List.getElem?_set_ne (by omega), List.getElem?_append_right (by omega), List.getElem?_append_right (by omega), l1, l2, List.getElem?_replicate, List.getElem?_replicate]
    by_cases him : i < m
    · rw [if_pos (by omega), if_pos (by omega)]
    · rw [if_neg (by omega), if_neg (by omega)]

set_option maxHeartbeats 1600000 in
theorem walk_three (a0 : Option Addr) (len0 cap0 : Nat) (x0 : List UInt8) {w : World} (w0 : inBytes x0 w.heap.size w [.slice a0 len0 cap0]) (a1 : Option Addr) (len1 cap1 : Nat) (x1 : List UInt8) (w1 : inBytes x1 w.heap.size w [.slice a1 len1 cap1]) (a2 : Option Addr) (len2 cap2 : Nat) (x2 : List UInt8) (w2 : inBytes x2 w.heap.size w [.slice a2 len2 cap2]) :
    Calls Try.prog 10 #[.slice a0 len0 cap0, .slice a1 len1 cap1, .slice a2 len2 cap2] w (RetTrue w) := by
  obtain ⟨hl0, hc0, hm0, hn0, hv0, _⟩ := in_few w0
  obtain ⟨hl1, hc1, hm1, hn1, hv1, _⟩ := in_few w1
  obtain ⟨hl2, hc2, hm2, hn2, hv2, _⟩ := in_few w2
  obtain ⟨m, hm⟩ : ∃ m : Nat, min (min (min (len0 : Int) len1) len2) 50000 = (m : Int) := ⟨(min (min (min (len0 : Int) len1) len2) 50000).toNat, by omega⟩
  have hm0' : m ≤ len0 := by omega
  have hm1' : m ≤ len1 := by omega
  have hm2' : m ≤ len2 := by omega
  have hm5 : m ≤ 50000 := by omega
  have HV0 := Lib.hid hv0
  have HV1 := Lib.hid hv1
  have HV2 := Lib.hid hv2
  have HL0 := Lib.hid hl0
  have HL1 := Lib.hid hl1
  have HL2 := Lib.hid hl2
  have HN0 := Lib.hid hn0
  have HN1 := Lib.hid hn1
  have HN2 := Lib.hid hn2
  have HC0 := Lib.hid hm0
  have HC1 := Lib.hid hm1
  have HC2 := Lib.hid hm2
  unfold maxLen at hm0 hm1 hm2
  have hmin : ∀ wx, (Builtin.min_ #[3, 3, 3, 3] 3 #[.int .i64 (len0 : Int), .int .i64 (len1 : Int), .int .i64 (len2 : Int), .int .i64 50000]).run Try.prog wx = .ok (.int .i64 (m : Int)) wx := by
    intro wx
    simp [Builtin.min_, Builtin.min2]
    repeat' split
    all_goals omega
  clear hm
  clear w0 w1 w2 hv0 hv1 hv2 hl0 hl1 hl2 hn0 hn1 hn2
  go_enter Try.func10, Try.ntmps10
  go_wp2_with (fail)
  refine (shown_any w).mono ?_
  rintro e wa ⟨rfl, hb⟩
  have H0 : Hid (St w.heap.size w wa []) := ⟨hb, hb.size, fun _ => False, fun _ h => h, fun _ h => h.elim⟩
  clear hb
  obtain ⟨wb, hrun, hst⟩ := make_bytes H0.out .i64 .i64 m (by omega)
  have H1 := Lib.hid hst
  clear hst
  go_wp2_with (fail)
  clear hrun hmin
  obtain ⟨g, hg⟩ : ∃ g, g = wa.heap.size := ⟨_, rfl⟩
  rw [← hg] at H1 ⊢
  clear hg
  obtain ⟨xs, hxs⟩ : ∃ xs, xs = x3 x0 x1 x2 m := ⟨_, rfl⟩
  have HXS := Lib.hid hxs
  have hxl : xs.length = m := by rw [hxs, x3_len]
  have HXL := Lib.hid hxl
  clear hxs hxl
  go_loopw [23] (fun i wr => ∃ k : Nat, k ≤ m ∧ i = .int .i64 k ∧ St w.heap.size w wr [AB (some ⟨g, 0, none⟩) m m (mix xs k m)]) (fun i _ => m - (intOf i).toNat)
  case atStart => exact ⟨0, Nat.zero_le _, rfl, by rw [mix_zero]; exact H1.out⟩
  case round =>
    obtain ⟨k, hk, rfl, H⟩ := hrel
    have H := Lib.hid H
    by_cases hlt : k < m
    · obtain ⟨b0, o0, rfl, -, hb0, c0⟩ := view_at (HV0.out.below H.out.below) (k := k) (by rw [← HL0.out]; omega)
      obtain ⟨b1, o1, rfl, -, hb1, c1⟩ := view_at (HV1.out.below H.out.below) (k := k) (by rw [← HL1.out]; omega)
      obtain ⟨b2, o2, rfl, -, hb2, c2⟩ := view_at (HV2.out.below H.out.below) (k := k) (by rw [← HL2.out]; omega)
      obtain ⟨g', hg', c3, f3, put⟩ := own_byte H.out.drew 0 rfl k hlt
      obtain rfl : g = g' := by simpa using hg'
      clear hg'
      have hget := x3_get x0 x1 x2 m k hlt
      rw [← HXS.out] at hget
      obtain ⟨d0, hd0⟩ : ∃ d, d = x0.getD k 0 := ⟨_, rfl⟩
      obtain ⟨d1, hd1⟩ : ∃ d, d = x1.getD k 0 := ⟨_, rfl⟩
      obtain ⟨d2, hd2⟩ : ∃ d, d = x2.getD k 0 := ⟨_, rfl⟩
      rw [← hd0] at c0 hget
      rw [← hd1] at c1 hget
      rw [← hd2] at c2 hget
      have q1 := u8_xor_nat d0.toNat d1.toNat d0.toNat_lt d1.toNat_lt
      rw [← UInt8.toNat_xor] at q1
      have q2 := u8_xor_nat (d0 ^^^ d1).toNat d2.toNat (d0 ^^^ d1).toNat_lt d2.toNat_lt
      rw [← UInt8.toNat_xor, ← hget] at q2
      obtain ⟨e1, he1⟩ : ∃ e, e = d0 ^^^ d1 := ⟨_, rfl⟩
      rw [← he1] at q1 q2
      obtain ⟨e2, he2⟩ : ∃ e, e = xs.getD k 0 := ⟨_, rfl⟩
      rw [← he2] at q2
      have PUT : Hid (St w.heap.size w (wr.drew.setCell ⟨g, k, none⟩ (.int .u8 (e2.toNat : Int))) [AB (some ⟨g, 0, none⟩) m m (mix xs (k + 1) m)]) := by
        have h := put e2
        rw [he2, mix_set xs k m HXL.out hlt] at h
        rw [he2]
        exact h
      clear hd0 hd1 hd2 he1 he2 hget put
      have i0 : k < len0 := by omega
      have i1 : k < len1 := by omega
      have i2 : k < len2 := by omega
      have j0 : (k : Int) < (len0 : Int) := by omega
      have j1 : (k : Int) < (len1 : Int) := by omega
      have j2 : (k : Int) < (len2 : Int) := by omega
      have j3 : (k : Int) < (m : Int) := by omega
      have j4 : (0 : Int) ≤ (k : Int) := by omega
      have cc0 : wr.drew.cell? ⟨b0, o0 + k, none⟩ = _ := c0
      have cc1 : wr.drew.cell? ⟨b1, o1 + k, none⟩ = _ := c1
      have cc2 : wr.drew.cell? ⟨b2, o2 + k, none⟩ = _ := c2
      go_wp2
      go_still_tail 17, (by kernel_rfl)
      change wpList _ _ _ _ _ wr.drew
      clear cc0 cc1 cc2
      generalize wr.drew = wd at c3 f3 PUT ⊢
      go_wp2
      go_roundw
      case rel => exact ⟨k + 1, by omega, by go_num, PUT.out⟩
      case measure => simp [intOf]; omega
    · obtain ⟨u, hu⟩ : ∃ u, u = msum 0 xs := ⟨_, rfl⟩
      obtain ⟨s0, hs0⟩ : ∃ s, s = msum 0 (x0.take m) := ⟨_, rfl⟩
      obtain ⟨s1, hs1⟩ : ∃ s, s = msum 0 (x1.take m) := ⟨_, rfl⟩
      obtain ⟨s2, hs2⟩ : ∃ s, s = msum 0 (x2.take m) := ⟨_, rfl⟩
      have h3 := three x0 x1 x2 m (by rw [← HL0.out]; exact hm0') (by rw [← HL1.out]; exact hm1') (by rw [← HL2.out]; exact hm2')
      rw [← HXS.out, ← hu, ← hs0, ← hs1, ← hs2] at h3
      obtain ⟨t, ht⟩ : ∃ t, t = s0 ^^^ s1 := ⟨_, rfl⟩
      have HT : Hid (bits .xor .u32 (s0.toNat : Int) (s1.toNat : Int) = (t.toNat : Int)) := by
        show bits .xor .u32 (s0.toNat : Int) (s1.toNat : Int) = (t.toNat : Int)
        rw [u32_xor_nat _ _ s0.isLt s1.isLt, ht, BitVec.toNat_xor]
      have HU : Hid (bits .xor .u32 (t.toNat : Int) (s2.toNat : Int) = (u.toNat : Int)) := by
        show bits .xor .u32 (t.toNat : Int) (s2.toNat : Int) = (u.toNat : Int)
        rw [u32_xor_nat _ _ t.isLt s2.isLt, ← h3, ← ht, BitVec.toNat_xor]
      have hsum : ∀ (a : Option Addr) (len cap : Nat) (x : List UInt8) (s : R), len = x.length → m ≤ len → View w (fun k => k < w.heap.size) a x → s = msum 0 (x.take m) → ∀ wx, Below wr.heap.size wr wx → Calls Try.prog 13 #[.slice a m cap] wx fun e w' => e = .returned (.int .u32 s.toNat) ∧ Below wx.heap.size wx w' := by
        intro a len cap x s hl hml hv hs wx hwx
        have hlm : (x.take m).length = m := by rw [List.length_take, ← hl]; omega
        have h := sum_any _ a (x.take m) cap wx ((View.take hv m).below (H.out.below.trans (hwx.mono H.out.size))) (by omega)
        rw [hlm, ← hs] at h
        exact h.mono fun _ _ h => ⟨h.1, h.2 ▸ Below.refl _ _⟩
      have HS0 := Lib.hid (hsum a0 len0 cap0 x0 s0 HL0.out hm0' HV0.out hs0)
      have HS1 := Lib.hid (hsum a1 len1 cap1 x1 s1 HL1.out hm1' HV1.out hs1)
      have HS2 := Lib.hid (hsum a2 len2 cap2 x2 s2 HL2.out hm2' HV2.out hs2)
      have hkm : k = m := by omega
      obtain ⟨S, hS, -⟩ := H.out.at 0 rfl
      rw [hkm, mix_all xs m HXL.out] at hS
      have HVX := Lib.hid (AB.view hS)
      have HSU : Hid (∀ wx, Below wr.heap.size wr wx → Calls Try.prog 13 #[.slice (some ⟨g, 0, none⟩) m m] wx fun e w' => e = .returned (.int .u32 u.toNat) ∧ Below wx.heap.size wx w') := by
        intro wx hwx
        have h := sum_any _ _ xs m wx (view_later HVX.out hwx) (by rw [HXL.out]; omega)
        rw [HXL.out, ← hu] at h
        exact h.mono fun _ _ h => ⟨h.1, h.2 ▸ Below.refl _ _⟩
      clear hkm hu hs0 hs1 hs2 h3 ht hsum hS
      go_wp2
      refine wp_lax_list (by kernel_rfl) (by kernel_rfl) (by kernel_rfl) ?_
      refine wpL_move (.bool true) rfl (by kernel_rfl) (by kernel_rfl) (by kernel_rfl) (by kernel_rfl) ?_
      refine wpL_move (.bool true) rfl (by kernel_rfl) (by kernel_rfl) (by kernel_rfl) (by kernel_rfl) ?_
      refine wpL_move (.slice a0 len0 cap0) rfl (by kernel_rfl) (by kernel_rfl) (by kernel_rfl) (by kernel_rfl) ?_
      refine wpL_move (.int .i64 m) rfl (by kernel_rfl) (by kernel_rfl) (by kernel_rfl) (by kernel_rfl) ?_
      refine wpL_run2 (x := .tmp 46) (y := .tmp 47) (.slice a0 len0 cap0) (.int .i64 m) (.slice a0 m cap0) (by kernel_rfl) (by kernel_rfl) (by kernel_rfl) (by kernel_rfl) (by kernel_rfl) (by kernel_rfl) (fun wx ρ hwx h0 h1 hc => cut_to rfl a0 len0 cap0 m hm0' hc0 HC0.out (fun e => (HN0.out e).2) ρ wx h0 h1) ?_
      refine wpL_fn (.int .u32 s0.toNat) [.slice a0 m cap0] rfl (by kernel_rfl) (by kernel_rfl) (by kernel_rfl) (by kernel_rfl) (fun _ _ => by simp [go_sem]) (fun wx hwx => HS0.out wx hwx) ?_
      refine wpL_move (.slice a1 len1 cap1) rfl (by kernel_rfl) (by kernel_rfl) (by kernel_rfl) (by kernel_rfl) ?_
      refine wpL_move (.int .i64 m) rfl (by kernel_rfl) (by kernel_rfl) (by kernel_rfl) (by kernel_rfl) ?_
      refine wpL_run2 (x := .tmp 50) (y := .tmp 51) (.slice a1 len1 cap1) (.int .i64 m) (.slice a1 m cap1) (by kernel_rfl) (by kernel_rfl) (by kernel_rfl) (by kernel_rfl) (by kernel_rfl) (by kernel_rfl) (fun wx ρ hwx h0 h1 hc => cut_to rfl a1 len1 cap1 m hm1' hc1 HC1.out (fun e => (HN1.out e).2) ρ wx h0 h1) ?_
      refine wpL_fn (.int .u32 s1.toNat) [.slice a1 m cap1] rfl (by kernel_rfl) (by kernel_rfl) (by kernel_rfl) (by kernel_rfl) (fun _ _ => by simp [go_sem]) (fun wx hwx => HS1.out wx hwx) ?_
      refine wpL_run2 (x := .tmp 49) (y := .tmp 53) (.int .u32 s0.toNat) (.int .u32 s1.toNat) (.int .u32 t.toNat) (by kernel_rfl) (by kernel_rfl) (by kernel_rfl) (by kernel_rfl) (by kernel_rfl) (by kernel_rfl) (fun wx ρ hwx h0 h1 hc => by simp [h0, h1, hc, go_sem, HT.out]) ?_
      refine wpL_move (.slice a2 len2 cap2) rfl (by kernel_rfl) (by kernel_rfl) (by kernel_rfl) (by kernel_rfl) ?_
      refine wpL_move (.int .i64 m) rfl (by kernel_rfl) (by kernel_rfl) (by kernel_rfl) (by kernel_rfl) ?_
      refine wpL_run2 (x := .tmp 55) (y := .tmp 56) (.slice a2 len2 cap2) (.int .i64 m) (.slice a2 m cap2) (by kernel_rfl) (by kernel_rfl) (by kernel_rfl) (by kernel_rfl) (by kernel_rfl) (by kernel_rfl) (fun wx ρ hwx h0 h1 hc => cut_to rfl a2 len2 cap2 m hm2' hc2 HC2.out (fun e => (HN2.out e).2) ρ wx h0 h1) ?_
      refine wpL_fn (.int .u32 s2.toNat) [.slice a2 m cap2] rfl (by kernel_rfl) (by kernel_rfl) (by kernel_rfl) (by kernel_rfl) (fun _ _ => by simp [go_sem]) (fun wx hwx => HS2.out wx hwx) ?_
      refine wpL_run2 (x := .tmp 54) (y := .tmp 58) (.int .u32 t.toNat) (.int .u32 s2.toNat) (.int .u32 u.toNat) (by kernel_rfl) (by kernel_rfl) (by kernel_rfl) (by kernel_rfl) (by kernel_rfl) (by kernel_rfl) (fun wx ρ hwx h0 h1 hc => by simp [h0, h1, hc, go_sem, HU.out]) ?_
      refine wpL_move (.slice (some ⟨g, 0, none⟩) m m) rfl (by kernel_rfl) (by kernel_rfl) (by kernel_rfl) (by kernel_rfl) ?_
      refine wpL_fn (.int .u32 u.toNat) [.slice (some ⟨g, 0, none⟩) m m] rfl (by kernel_rfl) (by kernel_rfl) (by kernel_rfl) (by kernel_rfl) (fun _ _ => by simp [go_sem]) (fun wx hwx => HSU.out wx hwx) ?_
      refine wpL_run2 (x := .tmp 59) (y := .tmp 61) (.int .u32 u.toNat) (.int .u32 u.toNat) (.bool true) (by kernel_rfl) (by kernel_rfl) (by kernel_rfl) (by kernel_rfl) (by kernel_rfl) (by kernel_rfl) (fun wx ρ hwx h0 h1 hc => by simp [go_sem, h0, h1, hc]) ?_
      refine wpL_run2 (x := .tmp 45) (y := .tmp 62) (.bool true) (.bool true) (.bool true) (by kernel_rfl) (by kernel_rfl) (by kernel_rfl) (by kernel_rfl) (by kernel_rfl) (by kernel_rfl) (fun wx ρ hwx h0 h1 hc => by simp [go_sem, h0, h1]) ?_
      refine wpL_assign (.bool true) rfl (by kernel_rfl) (by kernel_rfl) (by kernel_rfl) (by kernel_rfl) ?_
      refine wpL_end (by kernel_rfl) (fun wz hwz => ?_)
      have HW := Lib.hid (H.out.below.trans (hwz.mono H.out.size))
      clear hwz
      simp only [FinL, setL, List.set_cons_zero, List.set_cons_succ]
      go_wp2
      go_ret
      exact ⟨rfl, HW.out⟩

end Crc
end Go.Proofs.Ythbipankdbfdjaa
