/- Contracts of the document's own answer for layer 2: the sum. -/
import Derived.Test.YthbipankdbfdjaaCrcB
namespace Go.Proofs.Ythbipankdbfdjaa
open Go.RowKit Go.Own
namespace Crc
open Go.CrcM Cod

theorem rnot_eq (x : R) : (4294967295 : Int) - (x.toNat : Int) = ((~~~ x).toNat : Int) := by
  have := x.isLt
  rw [BitVec.toNat_not]; omega

set_option maxHeartbeats 800000 in
theorem refMore_any (D : Nat → Prop) (s : R) (ao : Option Addr) (l : List UInt8) (cap : Nat) (w : World) (hV : View w D ao l) (hl : l.length ≤ 1000000000) :
    Calls Try.prog 14 #[.int .u32 s.toNat, .slice ao l.length cap] w fun e w' => e = .returned (.int .u32 (msum s l).toNat) ∧ w = w' := by
  obtain ⟨len, hlen⟩ : ∃ len, len = l.length := ⟨_, rfl⟩
  rw [← hlen]
  rw [← hlen] at hl
  have HL := Lib.hid hlen
  have hnot := rnot_eq s
  obtain ⟨ns, hns⟩ : ∃ ns, ns = ~~~ s := ⟨_, rfl⟩
  rw [← hns] at hnot
  have HNS := Lib.hid hns
  have hslt : s.toNat < 4294967296 := s.isLt
  clear hlen hns
  go_enter Try.func14, Try.ntmps14
  go_wp2
  clear hnot
  go_loop [5, 6] (fun x i => ∃ k : Nat, k ≤ len ∧ i = .int .i64 k ∧ x = .int .u32 (crun ns (l.take k)).toNat) (fun _ i => len - (intOf i).toNat)
  case atStart => exact ⟨0, Nat.zero_le _, rfl, rfl⟩
  case round =>
    obtain ⟨k, hk, rfl, rfl⟩ := hrel
    obtain ⟨x, hx⟩ : ∃ x, x = crun ns (l.take k) := ⟨_, rfl⟩
    rw [← hx]
    have HX := Lib.hid hx
    clear hx
    by_cases hlt : k < len
    · obtain ⟨b, o, rfl, -, hbw, hc⟩ := view_at hV (k := k) (by rw [← HL.out]; exact hlt)
      obtain ⟨c, hcd⟩ : ∃ c, c = l.getD k 0 := ⟨_, rfl⟩
      rw [← hcd] at hc
      have hsn : l.take (k + 1) = l.take k ++ [c] := by
        rw [List.take_succ_eq_append_getElem (by rw [← HL.out]; exact hlt), hcd]
        simp [show k < l.length by rw [← HL.out]; exact hlt]
      have HC : Hid (feed x c = crun ns (l.take (k + 1))) := by
        show feed x c = _
        rw [hsn, crun_snoc, ← HX.out]
      have hxor := low_xor x c
      obtain ⟨y, hy⟩ : ∃ y, y = x ^^^ low c := ⟨_, rfl⟩
      rw [← hy] at hxor
      have HY : Hid (ticks 8 y = feed x c) := by show ticks 8 y = feed x c; rw [hy]; rfl
      clear hcd hsn hV hy
      go_wp2_with (fail)
      clear hxor
      go_loop [5, 7] (fun x i => ∃ k : Nat, k ≤ 8 ∧ i = .int .i64 k ∧ x = .int .u32 (ticks k y).toNat) (fun _ i => 8 - (intOf i).toNat)
      case atStart => exact ⟨0, by omega, rfl, rfl⟩
      case round =>
        obtain ⟨j, hj, rfl, rfl⟩ := hrel
        obtain ⟨z, hz⟩ : ∃ z, z = ticks j y := ⟨_, rfl⟩
        rw [← hz]
        have HZ := Lib.hid hz
        clear hz
        have hzlt : z.toNat < 4294967296 := z.isLt
        by_cases h8 : (j : Int) < 8
        · by_cases h1 : z.toNat % 2 = 1
          · have hand : ((z.toNat : Int) % 2 == 1) = true := by rw [show (z.toNat : Int) % 2 = 1 by omega]; rfl
            have HS := Lib.hid (tick_yes z h1)
            clear h1
            go_wp2
            go_round
            case rel => exact ⟨j + 1, by omega, by go_num, by rw [HS.out, HZ.out]; rfl⟩
            case measure => simp [intOf]; omega
          · have hand : ((z.toNat : Int) % 2 == 1) = false := by rw [show (z.toNat : Int) % 2 = 0 by omega]; rfl
            have HS := Lib.hid (tick_no z h1)
            clear h1
            go_wp2
            go_round
            case rel => exact ⟨j + 1, by omega, by go_num, by rw [show (z.toNat : Int) / 2 = ((z.toNat / 2 : Nat) : Int) by omega, ← HS.out, HZ.out]; rfl⟩
            case measure => simp [intOf]; omega
        · have hj8 : j = 8 := by omega
          have HK := Lib.hid hj8
          clear hj8
          go_wp2
          go_round
          case rel => exact ⟨k + 1, by omega, by go_num, by rw [← HC.out, ← HY.out, HZ.out, HK.out]⟩
          case measure => simp [intOf]; omega
    · have hkm : l.take k = l := List.take_of_length_le (by rw [← HL.out]; omega)
      have hnot := rnot_eq x
      obtain ⟨y, hy⟩ : ∃ y, y = ~~~ x := ⟨_, rfl⟩
      rw [← hy] at hnot
      have hxlt : x.toNat < 4294967296 := x.isLt
      have HK : Hid (msum s l = y) := by show msum s l = y; rw [hy, HX.out, hkm, HNS.out]; rfl
      clear hkm hy
      go_wp2
      go_ret
      exact ⟨by rw [HK.out]; rfl, rfl⟩

end Crc
end Go.Proofs.Ythbipankdbfdjaa
