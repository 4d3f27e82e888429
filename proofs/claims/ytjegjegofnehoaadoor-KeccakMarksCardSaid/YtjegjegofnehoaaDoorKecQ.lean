/- What the landed package keeps (a premise of the walks: 'Kept'; to be proved of the landed code), and the examples at the head of all statements. -/
import Derived.Test.YtjegjegofnehoaaDoorKecV
namespace Go.Proofs.YtjegjegofnehoaaDoor
open Go.RowKit Go.Own
namespace Kec
open Go.KecM

def RetYes (w : World) (e : Ending) (w' : World) : Prop := e = .returned (.bool true) ∧ Below w.heap.size w w'

structure Kept (W : World) : Prop where
  turn : ∀ (x y : Int) (w : World), Below W.heap.size W w → -9223372036854775808 ≤ x → x ≤ 9223372036854775807 → -9223372036854775808 ≤ y → y ≤ 9223372036854775807 → Calls Tryd.prog 12 #[.int .i64 x, .int .i64 y] w fun e w' => e = .returned (.int .i64 ((KecM.turn (x % 5).toNat (y % 5).toNat : Nat) : Int)) ∧ Below w.heap.size w w'
  mark : ∀ (round : Int) (w : World), Below W.heap.size W w → -9223372036854775808 ≤ round → round ≤ 9223372036854775807 → Calls Tryd.prog 14 #[.int .i64 round] w fun e w' => e = .returned (.int .u64 (markOf round).toNat) ∧ Below w.heap.size w w'
  round : ∀ (s : KecM.St) (round : Int) (w : World), Below W.heap.size W w → s.length = 25 → -9223372036854775808 ≤ round → round ≤ 9223372036854775807 → Calls Tryd.prog 16 #[.agg (s.map u64V).toArray, .int .i64 round] w fun e w' => e = .returned (.agg ((roundM (markOf round) s).map u64V).toArray) ∧ Below w.heap.size w w'
  perm : ∀ (s : KecM.St) (w : World), Below W.heap.size W w → s.length = 25 → Calls Tryd.prog 18 #[.agg (s.map u64V).toArray] w fun e w' => e = .returned (.agg ((perm 24 s).map u64V).toArray) ∧ Below w.heap.size w w'
/-- in every later world too -/
theorem Kept.later {W W' : World} (K : Kept W) (g : Below W.heap.size W W') : Kept W' :=
  ⟨fun x y w h => K.turn x y w (g.trans (h.mono g.size)), fun r w h => K.mark r w (g.trans (h.mono g.size)), fun s r w h => K.round s r w (g.trans (h.mono g.size)), fun s w h => K.perm s w (g.trans (h.mono g.size))⟩
/-- WHAT THE LANDED PACKAGE KEEPS, where its table is -/
theorem kept (W : World) (T : Tab W) : Kept W :=
  ⟨fun x y w h a b c d => (turnK_any x y a b c d w (T.later h)).mono fun _ _ h => ⟨h.1, h.2 ▸ Below.refl _ _⟩, fun r w _ a b => (markK_any r a b w).mono fun _ _ h => ⟨h.1, h.2 ▸ Below.refl _ _⟩, fun s r w h hs a b => roundK_any s hs r a b w (T.later h), fun s w h hs => permK_any s hs w (T.later h)⟩

theorem turn_10 : KecM.turn ((1 : Int) % 5).toNat ((0 : Int) % 5).toNat = 1 := by decide
theorem turn_02 : KecM.turn ((0 : Int) % 5).toNat ((2 : Int) % 5).toNat = 3 := by decide
theorem mark_0 : (markOf 0).toNat = 1 := by decide +kernel
theorem mark_1 : (markOf 1).toNat = 32898 := by decide +kernel

set_option maxHeartbeats 800000 in
theorem shown_any {w : World} (K : Kept w) : Calls Tryd.prog 11 #[] w (RetYes w) := by
  obtain ⟨s0, hs0⟩ : ∃ s : KecM.St, s = List.replicate 25 0 := ⟨_, rfl⟩
  obtain ⟨ps, hps⟩ : ∃ s : KecM.St, s = perm 24 s0 := ⟨_, rfl⟩
  have HL : Hid (ps.length = 25) := by show ps.length = 25; rw [hps]; exact perm_len _ _ (by rw [hs0]; rfl)
  have HV : Hid (((ps.getD 0 0).toNat : Int) = 17376452488221285863) := by
    show ((ps.getD 0 0).toNat : Int) = 17376452488221285863
    rw [hps, hs0, shown_perm]
    rfl
  have CP : Hid (∀ wx, Below w.heap.size w wx → Calls Tryd.prog 18 #[.agg ((List.replicate 25 (0 : KecM.W)).map u64V).toArray] wx fun e w' => e = .returned (.agg (ps.map u64V).toArray) ∧ Below wx.heap.size wx w') := by
    intro wx hwx
    have h := K.perm (List.replicate 25 0) wx hwx rfl
    rw [← hs0, ← hps, hs0] at h
    exact h
  have CT : Hid (∀ wx, Below w.heap.size w wx → Calls Tryd.prog 12 #[.int .i64 1, .int .i64 0] wx fun e w' => e = .returned (.int .i64 1) ∧ Below wx.heap.size wx w') := by
    intro wx hwx
    have h := K.turn 1 0 wx hwx (by decide) (by decide) (by decide) (by decide)
    rw [turn_10] at h
    exact h
  have CU : Hid (∀ wx, Below w.heap.size w wx → Calls Tryd.prog 12 #[.int .i64 0, .int .i64 2] wx fun e w' => e = .returned (.int .i64 3) ∧ Below wx.heap.size wx w') := by
    intro wx hwx
    have h := K.turn 0 2 wx hwx (by decide) (by decide) (by decide) (by decide)
    rw [turn_02] at h
    exact h
  have CM : Hid (∀ wx, Below w.heap.size w wx → Calls Tryd.prog 14 #[.int .i64 0] wx fun e w' => e = .returned (.int .u64 1) ∧ Below wx.heap.size wx w') := by
    intro wx hwx
    have h := K.mark 0 wx hwx (by decide) (by decide)
    rw [mark_0] at h
    exact h
  have CN : Hid (∀ wx, Below w.heap.size w wx → Calls Tryd.prog 14 #[.int .i64 1] wx fun e w' => e = .returned (.int .u64 32898) ∧ Below wx.heap.size wx w') := by
    intro wx hwx
    have h := K.mark 1 wx hwx (by decide) (by decide)
    rw [mark_1] at h
    exact h
  clear hs0 hps K
  go_enter Tryd.func11, Tryd.ntmps11
  go_wp2_with (fail)
  refine (CP.out w (Below.refl _ _)).mono ?_
  rintro e w1 ⟨rfl, hw1⟩
  have H0 := Own.St.start w
  have H1 := H0.later hw1
  have H2 := A64.box H1 29 (List.replicate 25 0)
  have THERE := Lib.hid (A64.there H2 0 rfl ps (by rw [HL.out]; rfl))
  have ALL : Hid (Own.St w.heap.size w ((w1.alloc (.cells ((List.replicate 25 (0 : KecM.W)).map u64V).toArray 29)).setCells w1.heap.size 0 (ps.map u64V)) [A64 w1.heap.size 29 ps]) := A64.setAll H2 0 rfl ps (by rw [HL.out]; rfl)
  have INFO := Lib.hid (info_lanes ps HL.out)
  have ONE := Lib.hid (one_cells ps)
  clear H0 H1 H2 hw1
  go_wp2_with (refine wpList_store_mid rfl 29 (.tmp 1) (.tmp 3) rfl w1.heap.size 0 (ps.map u64V).toArray rfl rfl THERE.out INFO.out ONE.out ?_)
  refine (CT.out _ ALL.out.below).mono ?_
  rintro e w2 ⟨rfl, hw2⟩
  have G2 : Hid (Own.St w.heap.size w w2 [A64 w1.heap.size 29 ps]) := ALL.out.later hw2
  clear hw2 ALL THERE INFO ONE
  obtain ⟨b, hb⟩ : ∃ b, b = w1.heap.size := ⟨_, rfl⟩
  rw [← hb] at G2 ⊢
  clear hb
  go_wp2_with (fail)
  refine (CU.out _ G2.out.below).mono ?_
  rintro e w3 ⟨rfl, hw3⟩
  have G3 := Lib.hid (G2.out.later hw3)
  clear hw3 G2
  go_wp2_with (fail)
  refine (CM.out _ G3.out.below).mono ?_
  rintro e w4 ⟨rfl, hw4⟩
  have G4 := Lib.hid (G3.out.later hw4)
  clear hw4 G3
  go_wp2_with (fail)
  refine (CN.out _ G4.out.below).mono ?_
  rintro e w5 ⟨rfl, hw5⟩
  have G5 := Lib.hid (G4.out.later hw5)
  clear hw5 G4
  have cell := (A64.cell G5.out 0 rfl 0 (by rw [HL.out]; omega) rfl).1
  rw [HV.out] at cell
  go_wp2_with (fail)
  go_ret
  exact ⟨rfl, G5.out.below⟩

end Kec
end Go.Proofs.YtjegjegofnehoaaDoor
