/- CodecNums: the walk. -/
import Derived.Test.YtjnldgijnpgckaaLaw1
namespace Go.Proofs.Ytjnldgijnpgckaa
open Go.RowKit Go.Own
namespace Cod

theorem num_le (n k : Nat) : num (le n k) = n % 2 ^ (8 * k) := by
  induction k with
  | zero => simp [le, num, Nat.mod_one]
  | succ k ih =>
    rw [le, num_snoc, ih, le_len]
    have e : 2 ^ (8 * (k + 1)) = 2 ^ (8 * k) * 256 := by rw [Nat.mul_add, Nat.pow_add]
    rw [e, Nat.mod_mul]
    simp

set_option maxHeartbeats 1000000 in
theorem walk_nums (a0 : Int) (w0 : (Lit.int .u64 a0).wf = true) (a1 : Int) (w1 : (Lit.int .u8 a1).wf = true) (w : World) :
    Calls Try.prog 8 #[.int .u64 a0, .int .u8 a1] w (RetTrue w) := by
  have h0 : 0 ≤ a0 ∧ a0 ≤ 18446744073709551615 := by simpa [Lit.wf, IntKind.min, IntKind.max, IntKind.signed, IntKind.bits] using w0
  have h1 : 0 ≤ a1 ∧ a1 ≤ 255 := by simpa [Lit.wf, IntKind.min, IntKind.max, IntKind.signed, IntKind.bits] using w1
  clear w0 w1
  obtain ⟨n, rfl⟩ := Int.eq_ofNat_of_zero_le h0.1
  obtain ⟨m, rfl⟩ := Int.eq_ofNat_of_zero_le h1.1
  obtain ⟨k, hk⟩ : ∃ k : Nat, (m : Int) % 9 = (k : Int) := ⟨m % 9, by omega⟩
  have hk8 : k ≤ 8 := by omega
  have hfit : (WS.num ⟨8, [], 0⟩ n k) = ⟨8, le n k, 0⟩ := by
    simp only [WS.num, WS.lay]
    rw [if_neg (by simp), if_neg (by omega), if_neg (by simp), if_neg (by rw [Int.toNat_natCast, le_len]; simp; omega), Int.toNat_natCast]
    rfl
  have hrd : RS.num ⟨le n k, 0⟩ k = (n % 2 ^ (8 * k), ⟨[], 0⟩) := by
    simp only [RS.num]
    rw [if_neg (by simp), if_neg (by omega), if_neg (by rw [le_len]; omega), Int.toNat_natCast, List.take_of_length_le (by rw [le_len]; exact Nat.le_refl _), List.drop_eq_nil_of_le (by rw [le_len]; exact Nat.le_refl _), num_le]
  obtain ⟨q, hq⟩ : ∃ q, q = n % 2 ^ (8 * k) := ⟨_, rfl⟩
  rw [← hq] at hrd
  have HF := Lib.hid hfit
  have HR := Lib.hid hrd
  have HQ := Lib.hid hq
  have hlen := Lib.hid (le_len n k)
  clear hfit hrd hq
  go_enter Try.func8, Try.ntmps8
  go_wp2_with (fail)
  refine (shown_any w).mono ?_
  rintro e w1 ⟨rfl, hb⟩
  have H0 : Hid (St w.heap.size w w1 []) := ⟨hb, hb.size, fun _ => False, fun _ h => h, fun _ h => h.elim⟩
  clear hb
  go_wp2_with (fail)
  refine (newWriter_any 8 w1 (by omega)).mono ?_
  rintro e w2 ⟨p, S1, rfl, hW, hs⟩
  have H1 : Hid (St w.heap.size w w2 [AW p ⟨8, [], 0⟩]) := H0.out.new (AW p ⟨8, [], 0⟩) hW hs
  clear hW hs H0
  go_wp2_with (fail)
  obtain ⟨S, hS, hB, put⟩ := H1.out.at 0 rfl
  have PUT := Lib.hid put
  refine (num_any S p ⟨8, [], 0⟩ n k w2 hS (by simp)).mono ?_
  clear put hS hB
  rintro e w3 ⟨rfl, S', hW, hs⟩
  have H2 : Hid (St w.heap.size w w3 [AW p ⟨8, le n k, 0⟩]) := PUT.out S' w3 (AW p ⟨8, le n k, 0⟩) (HF.out ▸ hW) hs
  clear hW hs PUT H1
  go_wp2_with (fail)
  obtain ⟨S, hS, hB, put⟩ := H2.out.at 0 rfl
  have hout := out_any S p ⟨8, le n k, 0⟩ w3 hS (by have := hlen.out; simp only; omega)
  unfold OutDone at hout
  rw [show (WS.xs ⟨8, le n k, 0⟩).length = k from hlen.out] at hout
  refine hout.mono ?_
  clear put hS hB hout
  rintro e w4 ⟨ao, cap, T, rfl, hr, -, hs⟩
  have H3 : Hid (St w.heap.size w w4 [AB ao k cap (le n k), AW p ⟨8, le n k, 0⟩]) := H2.out.new (AB ao k cap (le n k)) hr hs
  clear hr hs H2
  go_wp2_with (fail)
  obtain ⟨S, hS, hB, put⟩ := H3.out.at 0 rfl
  have hnew := newReader_any S ao (le n k) cap w4 (AB.view hS) (by have := hlen.out; omega)
  rw [hlen.out] at hnew
  refine hnew.mono ?_
  clear put hS hB hnew
  rintro e w5 ⟨r, S, rfl, hR, hs⟩
  have H4 : Hid (St w.heap.size w w5 [AR r ⟨le n k, 0⟩, AB ao k cap (le n k), AW p ⟨8, le n k, 0⟩]) := H3.out.new (AR r ⟨le n k, 0⟩) hR hs
  clear hR hs H3
  have fin : ∀ wa, St w.heap.size w wa [AR r ⟨le n k, 0⟩, AB ao k cap (le n k), AW p ⟨8, le n k, 0⟩] → Calls Try.prog 20 #[.pointer (some ⟨r, 0, none⟩), .int .i64 k] wa
      (fun e w' => e = .returned (.int .u64 q) ∧ St w.heap.size w w' [AR r ⟨[], 0⟩, AB ao k cap (le n k), AW p ⟨8, le n k, 0⟩]) := by
    intro wa H
    obtain ⟨S, hS, hB, put⟩ := H.at 0 rfl
    have := rnum_any S r ⟨le n k, 0⟩ k wa hS (by have := hlen.out; simp only; omega)
    rw [HR.out] at this
    refine this.mono ?_
    rintro e w' ⟨rfl, hR, hs⟩
    exact ⟨rfl, put S w' (AR r ⟨[], 0⟩) hR hs⟩
  have fin2 : ∀ wa, St w.heap.size w wa [AR r ⟨[], 0⟩, AB ao k cap (le n k), AW p ⟨8, le n k, 0⟩] → Calls Try.prog 27 #[.pointer (some ⟨r, 0, none⟩)] wa (fun e w' => e = .returned (.int .i64 0) ∧ wa = w') := by
    intro wa H
    obtain ⟨S, hS, hB, put⟩ := H.at 0 rfl
    exact end_any S r ⟨[], 0⟩ wa hS
  have FIN := Lib.hid fin
  have FIN2 := Lib.hid fin2
  clear fin fin2
  by_cases h8 : k < 8
  · obtain ⟨s, hs⟩ : ∃ s : Nat, s = 2 ^ (8 * k) := ⟨_, rfl⟩
    have hsp : 0 < s := by rw [hs]; exact Nat.pow_pos (by decide)
    have hlt : s ≤ 2 ^ 56 := by rw [hs]; exact Nat.pow_le_pow_right (by omega) (by omega)
    have hsh : IntKind.u64.wrap (2 ^ (8 * k)) = (s : Int) := by
      have : ((2 : Int) ^ (8 * k)) = ((s : Nat) : Int) := by rw [hs]; simp
      rw [this]; exact IntWalk.u64_in _ (by omega)
    have hmod : (n : Int) % (s : Int) = (q : Int) := by rw [HQ.out, hs]; simp
    clear hs hlt
    go_wp2_with (fail)
    refine (FIN.out _ H4.out).mono ?_
    rintro e w6 ⟨rfl, H5⟩
    have H5 := Lib.hid H5
    go_wp2_with (fail)
    refine (FIN2.out _ H5.out).mono ?_
    rintro e w7 ⟨rfl, rfl⟩
    go_wp2_with (fail)
    go_ret
    exact ⟨rfl, H5.out.below⟩
  · have hqn : Hid (q = n) := by
      have : k = 8 := by omega
      subst this
      show q = n
      rw [HQ.out]
      exact Nat.mod_eq_of_lt (by omega)
    go_wp2_with (fail)
    refine (FIN.out _ H4.out).mono ?_
    rintro e w6 ⟨rfl, H5⟩
    rw [hqn.out]
    have H5 := Lib.hid H5
    go_wp2_with (fail)
    refine (FIN2.out _ H5.out).mono ?_
    rintro e w7 ⟨rfl, rfl⟩
    go_wp2_with (fail)
    go_ret
    exact ⟨rfl, H5.out.below⟩

end Cod
end Go.Proofs.Ytjnldgijnpgckaa
