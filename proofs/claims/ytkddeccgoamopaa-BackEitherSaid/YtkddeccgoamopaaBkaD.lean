/- The landed disk: Crash. -/
import Derived.Test.YtkddeccgoamopaaBkaC
import Derived.Laws.BitsAllLaws
namespace Go.Proofs.Ytkddeccgoamopaa
open Go.RowKit Go.Own
namespace Bak
open Go.BakM Byt
theorem bit_and (t i : Nat) (ht : t ≤ 18446744073709551615) : (bits .and .u64 ((t : Int) / 2 ^ (i % 64)) 1 == 1) = bitOf t i := by
  have e : ((t : Int) / 2 ^ (i % 64)) = ((t / 2 ^ (i % 64) : Nat) : Int) := by simp
  have hle : t / 2 ^ (i % 64) ≤ t := Nat.div_le_self _ _
  have h := u64_and_nat (t / 2 ^ (i % 64)) 1 (by omega) (by omega)
  rw [Nat.and_one_is_mod] at h
  have h2 : bits .and .u64 ((t / 2 ^ (i % 64) : Nat) : Int) 1 = ((t / 2 ^ (i % 64) % 2 : Nat) : Int) := h
  rw [e, h2]
  unfold bitOf
  generalize t / 2 ^ (i % 64) % 2 = x
  by_cases hx : x = 1
  · subst hx; rfl
  · have h1 : ¬ ((x : Nat) : Int) = 1 := by omega
    simp [hx, h1]
theorem fates_any (i t : Nat) (hi : i ≤ 1000000) (ht : t ≤ 18446744073709551615) (bx : Nat) (wx : World) (hb : wx.cell? ⟨bx, 0, none⟩ = some (.int .u64 (t : Int))) :
    Calls Try.prog 28 (#[.int .i64 (i : Int)] ++ #[.pointer (some ⟨bx, 0, none⟩)]) wx fun e w' => e = .returned (.bool (bitOf t i)) ∧ Below wx.heap.size wx w' := by
  show Calls Try.prog 28 #[.int .i64 (i : Int), .pointer (some ⟨bx, 0, none⟩)] wx _
  obtain ⟨k, hk⟩ : ∃ k, k = i % 64 := ⟨_, rfl⟩
  have hk64 : k < 64 := by omega
  have hmod : ((i : Int)).tmod 64 = (k : Int) := by rw [Int.tmod_eq_emod_of_nonneg (by omega)]; omega
  have hkn : ¬ ((k : Int) < 0) := by omega
  go_enter Try.func28, Try.ntmps28
  go_wp2
  go_ret
  exact ⟨retB (bit_and t i ht), Below.refl _ _⟩
section
variable {B : Nat} {w0 w : World} {Ps : List Asn} {p : Nat} {s : DS} {N : Nat}
set_option maxHeartbeats 1600000 in
theorem crash_any (H : Own.St B w0 w (ADk p s :: Ps)) (ok : Ok s N) (hN : N ≤ 10000) (t : Nat) (ht : t ≤ 18446744073709551615) :
    Calls Try.prog 13 #[qtr p, .int .u64 (t : Int)] w fun e w' => e = .returned (.tuple #[]) ∧ Own.St B w0 w' (ADk p (crash s t) :: Ps) := by
  obtain ⟨x, hx, h⟩ := dkOpen H
  have hL : s.L.length ≤ 10000 := by have := ok.log; have := ok.n; omega
  obtain ⟨bx, hbx⟩ : ∃ b, b = w.heap.size := ⟨_, rfl⟩
  have hbox := h.boxV 32 [.int .u64 (t : Int)]
  obtain ⟨W1, hW1⟩ : ∃ W, W = w.alloc (.cells #[.int .u64 (t : Int)] 32) := ⟨_, rfl⟩
  have hb1 : Own.St B w0 W1 (dkParts p x s ++ (AVals bx 32 [.int .u64 (t : Int)] :: Ps)) := by
    rw [hW1, hbx]
    exact hbox.perm (List.perm_middle (l₁ := dkParts p x s)).symm
  obtain ⟨S1, hS1⟩ : ∃ S, S = doAll t s.safe 0 s.L := ⟨_, rfl⟩
  have hsh1 : Shape S1 s.safe.length := by rw [hS1]; exact shape_all t s.L s.safe 0 ok.shape ok.puts
  have hF : doAllF (bitOf t) s.safe 0 s.L = S1 := by rw [hS1, doAll_F]
  have hsl := ok.len
  have SET : Hid (Calls Try.prog 27 #[qtr p, .func (.func 28) #[] #[.pointer (some ⟨bx, 0, none⟩)]] W1 fun e w' => e = .returned (.tuple #[]) ∧ Own.St B w0 w' (AVals p 62 (dkCells (.slice x.aN s.safe.length x.cN) (.slice x.aS s.safe.length x.cS) (.slice none 0 0) s.n s.off x.armed x.lf) :: bRow (.slice x.aS s.safe.length x.cS) s.safe.length S1 :: ARow 68 257 (.slice none 0 0) 0 [] :: Ps)) := by
    refine (settle_dk hb1 ok.shape ok.len ok.puts hL 28 #[.pointer (some ⟨bx, 0, none⟩)] (bitOf t) (fun _ _ => by simp [go_sem]) ?_).mono ?_
    · intro i wx Xs hi hst
      have h2 := hst.perm List.perm_append_comm
      have hbc := (h2.cellV 1 rfl 0 rfl).1
      exact fates_any i t (by omega) ht bx wx hbc
    · rintro e w' ⟨he, h'⟩
      refine ⟨he, ?_⟩
      rw [hF] at h'
      have h2 := (h'.front 3 rfl).drop 1
      simp only [List.eraseIdx_cons_succ, List.eraseIdx_cons_zero, List.drop_succ_cons, List.drop_zero] at h2
      have h3 := (h2.front 3 rfl).drop 1
      simp only [List.eraseIdx_cons_succ, List.eraseIdx_cons_zero, List.drop_succ_cons, List.drop_zero] at h3
      exact h3
  have CLN : Hid (∀ wx, Own.St B w0 wx (AVals p 62 (dkCells (.slice x.aN s.safe.length x.cN) (.slice x.aS s.safe.length x.cS) (.slice none 0 0) s.n s.off x.armed x.lf) :: bRow (.slice x.aS s.safe.length x.cS) s.safe.length S1 :: ARow 68 257 (.slice none 0 0) 0 [] :: Ps) → Calls Try.prog 25 #[.slice x.aS s.safe.length x.cS] wx fun e w' => ∃ a' c', e = .returned (.slice a' s.safe.length c') ∧ Own.St B w0 w' (AVals p 62 (dkCells (.slice x.aN s.safe.length x.cN) (.slice x.aS s.safe.length x.cS) (.slice none 0 0) s.n s.off x.armed x.lf) :: bRow (.slice a' s.safe.length c') s.safe.length S1 :: bRow (.slice x.aS s.safe.length x.cS) s.safe.length S1 :: ARow 68 257 (.slice none 0 0) 0 [] :: Ps)) := by
    intro wx hst
    refine (cloneBlk hst.swap2 (byteV_one _) (by omega)).mono ?_
    rintro e w' ⟨a', c', he, h'⟩
    refine ⟨a', c', he, ?_⟩
    have h2 := (h'.front 2 rfl)
    simp only [List.eraseIdx_cons_succ, List.eraseIdx_cons_zero] at h2
    exact h2
  have FIN : Hid (∀ wx a' c', Own.St B w0 wx (AVals p 62 (dkCells (.slice a' s.safe.length c') (.slice x.aS s.safe.length x.cS) (.slice none 0 0) s.n false false x.lf) :: bRow (.slice a' s.safe.length c') s.safe.length S1 :: bRow (.slice x.aS s.safe.length x.cS) s.safe.length S1 :: ARow 68 257 (.slice none 0 0) 0 [] :: Ps) → Own.St B w0 wx (ADk p (crash s t) :: Ps)) := by
    intro wx a' c' hst
    refine dkClose (x := { x with aN := a', cN := c', vP := .slice none 0 0, armed := false }) ⟨hx.i64, fun _ => ⟨fun h => (by cases h), fun _ => rfl⟩, fun h => (by cases h)⟩ ?_
    unfold dkParts crash some'
    simp only [← hS1, hsh1.len]
    exact hst
  have HW1 := Lib.hid hW1
  have HBX := Lib.hid hbx
  clear H h hL hbox hb1 hS1 hsh1 hF ok hW1 hbx hx hsl ht
  go_enter Try.func13, Try.ntmps13
  go_wp2_with (fail)
  rw [← HW1.out, ← HBX.out]
  clear HW1 HBX
  refine SET.out.mono ?_
  clear SET
  rintro e w2 ⟨rfl, h2⟩
  have c2 := (h2.cellV 0 rfl 1 rfl).1
  have C2 := Lib.hid (CLN.out w2 h2)
  clear h2 CLN
  go_wp2_with (fail)
  refine C2.out.mono ?_
  clear C2 c2
  rintro e w3 ⟨a3, c3, rfl, h3⟩
  have q1 := (h3.cellV 0 rfl 0 rfl)
  have h4 := h3.storeV 0 rfl 0 (.slice a3 s.safe.length c3)
  have q2 := (h4.cellV 0 rfl 4 rfl)
  have h5 := h4.storeV 0 rfl 4 (.bool false)
  have q3 := (h5.cellV 0 rfl 5 rfl)
  have h6 := h5.storeV 0 rfl 5 (.bool false)
  have H6 := Lib.hid (FIN.out _ a3 c3 h6)
  clear h3 h4 h5 h6 FIN
  go_wp2
  go_end0
  exact ⟨rfl, H6.out⟩
end
end Bak
end Go.Proofs.Ytkddeccgoamopaa
