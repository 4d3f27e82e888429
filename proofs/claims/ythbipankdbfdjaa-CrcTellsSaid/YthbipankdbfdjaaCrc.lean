/- Contracts of package crc: the register and the sum. -/
import Derived.Test.YthbipankdbfdjaaCodS
import Derived.Test.YthbipankdbfdjaaCrcM
import Derived.Laws.BitsAllLaws
import Derived.WalkLawsBesides
namespace Go.Proofs.Ythbipankdbfdjaa
open Go.RowKit Go.Own
namespace Crc
open Go.CrcM

theorem and_one (x : R) : bits .and .u32 (x.toNat : Int) 1 = ((x.toNat % 2 : Nat) : Int) := by
  have := u32_and_nat x.toNat 1 x.isLt (by omega)
  rw [Nat.and_one_is_mod] at this
  exact this
theorem bit_zero (x : R) : x.getLsbD 0 = decide (x.toNat % 2 = 1) := by
  rw [BitVec.getLsbD, Nat.testBit_zero]
theorem half (x : R) : (x >>> 1).toNat = x.toNat / 2 := by
  rw [BitVec.toNat_ushiftRight, Nat.shiftRight_eq_div_pow]
theorem tick_no (x : R) (h : ¬ x.toNat % 2 = 1) : (tick x).toNat = x.toNat / 2 := by
  unfold tick; rw [bit_zero]; simp only [h, decide_false, Bool.false_eq_true, if_false]; exact half x
theorem tick_yes (x : R) (h : x.toNat % 2 = 1) : bits .xor .u32 ((x.toNat : Int) / 2) 3988292384 = ((tick x).toNat : Int) := by
  have hlt := x.isLt
  have e := u32_xor_nat (x.toNat / 2) 3988292384 (by omega) (by omega)
  have e2 : (((x.toNat / 2 : Nat) : Int)) = (x.toNat : Int) / 2 := by omega
  rw [e2] at e
  refine e.trans ?_
  unfold tick
  rw [bit_zero]
  simp only [h, decide_true, if_true, BitVec.toNat_xor, half]
  rfl

theorem shift_any (r : R) (w : World) :
    Calls Try.prog 20 #[.int .u32 r.toNat] w fun e w' => e = .returned (.int .u32 (ticks 8 r).toNat) ∧ w = w' := by
  go_enter Try.func20, Try.ntmps20
  go_wp2
  go_loop [0, 4] (fun x i => ∃ k : Nat, k ≤ 8 ∧ i = .int .i64 k ∧ x = .int .u32 (ticks k r).toNat) (fun _ i => 8 - (intOf i).toNat)
  case atStart => exact ⟨0, by omega, rfl, rfl⟩
  case round =>
    obtain ⟨k, hk, rfl, rfl⟩ := hrel
    obtain ⟨x, hx⟩ : ∃ x, x = ticks k r := ⟨_, rfl⟩
    rw [← hx]
    have HX := Lib.hid hx
    clear hx
    have hlt := x.isLt
    by_cases h8 : (k : Int) < 8
    · by_cases h1 : x.toNat % 2 = 1
      · have hand : (bits BinOp.and IntKind.u32 (x.toNat : Int) 1 == 1) = true := by rw [and_one, h1]; rfl
        have HY := Lib.hid (tick_yes x h1)
        clear h1
        go_wp2
        go_round
        case rel => exact ⟨k + 1, by omega, by go_num, by rw [HY.out, HX.out]; rfl⟩
        case measure => simp [intOf]; omega
      · have hand : (bits BinOp.and IntKind.u32 (x.toNat : Int) 1 == 1) = false := by rw [and_one, show x.toNat % 2 = 0 by omega]; rfl
        have HY := Lib.hid (tick_no x h1)
        clear h1
        go_wp2
        go_round
        case rel => exact ⟨k + 1, by omega, by go_num, by rw [show (x.toNat : Int) / 2 = ((x.toNat / 2 : Nat) : Int) by omega, ← HY.out, HX.out]; rfl⟩
        case measure => simp [intOf]; omega
    · have hk8 : k = 8 := by omega
      have HK := Lib.hid hk8
      clear hk8
      go_wp2
      go_ret
      exact ⟨by rw [HX.out, HK.out]; rfl, rfl⟩

theorem view_at {w : World} {D : Nat → Prop} {ao : Option Addr} {l : List UInt8} (hV : View w D ao l) {k : Nat} (hk : k < l.length) :
    ∃ b o, ao = some ⟨b, o, none⟩ ∧ D b ∧ b < w.heap.size ∧ w.cell? ⟨b, o + k, none⟩ = some (.int .u8 ((l.getD k 0).toNat : Int)) := by
  rcases hV with h | ⟨b, o, e, h1, h2, h3⟩
  · rw [h] at hk; simp at hk
  · exact ⟨b, o, e, h1, h2, h3 k hk⟩

theorem not_eq (x : R) : bits .xor .u32 IntKind.u32.max (x.toNat : Int) = ((~~~ x).toNat : Int) := by
  have e := u32_xor_nat 4294967295 x.toNat (by omega) x.isLt
  refine Eq.trans e ?_
  have : ~~~ x = BitVec.allOnes 32 ^^^ x := by rw [BitVec.allOnes_xor]
  rw [this, BitVec.toNat_xor]
  rfl
theorem low_xor (x : R) (c : UInt8) : bits .xor .u32 (x.toNat : Int) ((c.toNat : Int) % 4294967296) = ((x ^^^ low c).toNat : Int) := by
  have hc := c.toNat_lt
  rw [show (c.toNat : Int) % 4294967296 = c.toNat by omega]
  have e := u32_xor_nat x.toNat c.toNat x.isLt (by omega)
  rw [e, BitVec.toNat_xor]
  unfold low
  rw [BitVec.toNat_ofNat, Nat.mod_eq_of_lt (by omega)]

set_option maxHeartbeats 400000 in
theorem more_any (D : Nat → Prop) (s : R) (ao : Option Addr) (l : List UInt8) (cap : Nat) (w : World) (hV : View w D ao l) (hl : l.length ≤ 1000000000) :
    Calls Try.prog 15 #[.int .u32 s.toNat, .slice ao l.length cap] w fun e w' => e = .returned (.int .u32 (msum s l).toNat) ∧ w = w' := by
  obtain ⟨len, hlen⟩ : ∃ len, len = l.length := ⟨_, rfl⟩
  rw [← hlen]
  rw [← hlen] at hl
  have HL := Lib.hid hlen
  have hnot := not_eq s
  obtain ⟨ns, hns⟩ : ∃ ns, ns = ~~~ s := ⟨_, rfl⟩
  rw [← hns] at hnot
  have HNS := Lib.hid hns
  clear hlen hns
  go_enter Try.func15, Try.ntmps15
  go_wp2
  clear hnot
  go_loop [5, 12] (fun x i => ∃ k : Nat, k ≤ len ∧ i = .int .i64 k ∧ x = .int .u32 (crun ns (l.take k)).toNat) (fun _ i => len - (intOf i).toNat)
  case atStart => exact ⟨0, Nat.zero_le _, rfl, rfl⟩
  case round =>
    obtain ⟨k, hk, rfl, rfl⟩ := hrel
    obtain ⟨x, hx⟩ : ∃ x, x = crun ns (l.take k) := ⟨_, rfl⟩
    rw [← hx]
    have HX := Lib.hid hx
    clear hx
    by_cases hlt : k < len
    · obtain ⟨b, o, rfl, -, hbw, hc⟩ := view_at hV (k := k) (by rw [← HL.out]; exact hlt)
      obtain ⟨c, hcd⟩ : ∃ c, c = l.getD k 0 := ⟨_, rfl⟩
      rw [← hcd] at hc
      have hsn : l.take (k + 1) = l.take k ++ [c] := by
        rw [List.take_succ_eq_append_getElem (by rw [← HL.out]; exact hlt), hcd]
        simp [show k < l.length by rw [← HL.out]; exact hlt]
      have HC : Hid (feed x c = crun ns (l.take (k + 1))) := by
        show feed x c = _
        rw [hsn, crun_snoc, ← HX.out]
      have hxor := low_xor x c
      obtain ⟨y, hy⟩ : ∃ y, y = x ^^^ low c := ⟨_, rfl⟩
      rw [← hy] at hxor
      have HY : Hid (ticks 8 y = feed x c) := by show ticks 8 y = feed x c; rw [hy]; rfl
      clear hcd hsn hV hy
      go_wp2_with (fail)
      refine (shift_any y _).mono ?_; rintro e w' ⟨rfl, rfl⟩
      go_wp2_with (fail)
      go_round
      case rel => exact ⟨k + 1, by omega, by go_num, by rw [← HC.out, ← HY.out]⟩
      case measure => simp [intOf]; omega
    · have hkm : l.take k = l := List.take_of_length_le (by rw [← HL.out]; omega)
      have hnot := not_eq x
      obtain ⟨y, hy⟩ : ∃ y, y = ~~~ x := ⟨_, rfl⟩
      rw [← hy] at hnot
      have HK : Hid (msum s l = y) := by show msum s l = y; rw [hy, HX.out, hkm, HNS.out]; rfl
      clear hkm hy
      go_wp2
      go_ret
      exact ⟨by rw [HK.out]; rfl, rfl⟩

theorem sum_any (D : Nat → Prop) (ao : Option Addr) (l : List UInt8) (cap : Nat) (w : World) (hV : View w D ao l) (hl : l.length ≤ 1000000000) :
    Calls Try.prog 13 #[.slice ao l.length cap] w fun e w' => e = .returned (.int .u32 (msum 0 l).toNat) ∧ w = w' := by
  go_enter Try.func13, Try.ntmps13
  go_wp2_with (fail)
  refine (more_any D 0 ao l cap w hV hl).mono ?_
  rintro e w' ⟨rfl, rfl⟩
  go_wp2
  go_ret
  exact ⟨rfl, rfl⟩

end Crc
end Go.Proofs.Ythbipankdbfdjaa
