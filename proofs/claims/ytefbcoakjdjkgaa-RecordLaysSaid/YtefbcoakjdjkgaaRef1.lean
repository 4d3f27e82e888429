/- Contracts of the document's own answer for layer 1: the writer. -/
import Derived.Test.YtefbcoakjdjkgaaCodS
import Derived.WalkLawsBesides
namespace Go.Proofs.Ytefbcoakjdjkgaa
open Go.RowKit Go.Own
namespace Cod

/-- a number's bytes, as a new slice -/
def RefNumDone (n k : Nat) (w : World) (e : Ending) (w' : World) : Prop :=
  ∃ ao cap T, e = .returned (.slice ao k cap) ∧ Row w' 5 1 T (.slice ao k cap) k ((le n k).map byteV) ∧ Step (fun _ => False) T w w'

theorem ref_byte (n k : Nat) : IntKind.u8.wrap (((n / 2 ^ (8 * k) : Nat) : Int) % 256) = ((UInt8.ofNat (n / 2 ^ (8 * k))).toNat : Int) := by
  rw [IntKind.wrap_u8]
  simp

set_option maxHeartbeats 400000 in
theorem refNum_any (n many : Nat) (w : World) (hm : many ≤ 8) (hn : n < 18446744073709551616) :
    Calls Try.prog 25 #[.int .u64 n, .int .i64 many] w (RefNumDone n many w) := by
  obtain ⟨i0, hi, hz0, hz1, hz2⟩ := info_parts Try.infoU8
  obtain ⟨lim, hlim⟩ : ∃ lim, n < lim ∧ lim ≤ 18446744073709551616 := ⟨n + 1, by omega, by omega⟩
  have HN := Lib.hid hn
  clear hn hlim
  go_enter Try.func25, Try.ntmps25
  go_wp2
  go_loopw [0, 5, 6] (fun x b i wr => ∃ k : Nat, k ≤ many ∧ i = .int .i64 k ∧ x = .int .u64 (n / 2 ^ (8 * k) : Nat) ∧ ∃ ao cap T, b = .slice ao k cap ∧ Row wr 5 1 T b k ((le n k).map byteV) ∧ Step (fun _ => False) T w wr) (fun _ _ i _ => many - (intOf i).toNat)
  case atStart => exact ⟨0, Nat.zero_le _, rfl, by simp, none, 0, _, rfl, Row.nil _ _ _, Step.refl _ _⟩
  case round =>
    obtain ⟨k, hk, rfl, rfl, ao, cap, T, rfl, hrow, hst⟩ := hrel
    by_cases hlt : k < many
    · obtain ⟨c, hc⟩ : ∃ c, c = UInt8.ofNat (n / 2 ^ (8 * k)) := ⟨_, rfl⟩
      obtain ⟨m, hmm⟩ : ∃ m, m = n / 2 ^ (8 * k) := ⟨_, rfl⟩
      have hB : IntKind.u8.wrap ((m : Int) % 256) = (c.toNat : Int) := by rw [hc, hmm]; exact ref_byte n k
      have hmlt : m ≤ 18446744073709551615 := by
        have := Nat.div_le_self n (2 ^ (8 * k)); have := HN.out; omega
      have hnx : m / 256 = n / 2 ^ (8 * (k + 1)) := by
        rw [hmm, Nat.div_div_eq_div_mul, Nat.mul_add, Nat.pow_add]
      rw [← hmm]
      have hcell := cell_new_byte wr c 5
      have HCell := Lib.hid hcell
      have HC := Lib.hid hc
      have HM := Lib.hid hmm
      have HX := Lib.hid hnx
      clear hc hmm hcell hnx
      go_wp2_with (at_builtin; refine wpList_append_row rfl (.tmp 12) (.tmp 16) 28 rfl 5 i0 (.int .u8 0) 1 1 Try.underlying28 hi hz0 hz1 hz2 rfl (by decide) (.slice ao k cap) k ((le n k).map byteV) rfl (hrow.alloc _) (some ⟨wr.heap.size, 0, none⟩) 1 1 [byteV c] rfl (by intro h; cases h) rfl HCell.out (byteV_one [_]) (by unfold maxLen; omega) (by omega) ?_; intro v' w1 T' hr' hs'; obtain ⟨ao'', cap'', rfl, -⟩ := hr'.form)
      go_roundw
      case rel =>
        refine ⟨k + 1, by omega, by go_num, ?_, ao'', cap'', T', rfl, ?_, (hst.trans ((Step.refl T wr).alloc _)).trans hs'⟩
        · show Value.int _ _ = Value.int _ _
          rw [← HX.out]; simp
        · rw [le, List.map_append, ← HC.out]; exact hr'
      case measure => simp [intOf]; omega
    · have hkm : Hid (k = many) := by show k = many; omega
      go_wp2
      go_ret
      exact ⟨ao, cap, T, by rw [hkm.out]; rfl, by rw [← hkm.out]; exact hrow, hst⟩

end Cod
end Go.Proofs.Ytefbcoakjdjkgaa
