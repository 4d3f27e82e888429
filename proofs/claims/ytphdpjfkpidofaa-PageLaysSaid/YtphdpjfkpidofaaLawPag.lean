/- Layer 9: PageLays, PageJoins, PageSplits. -/
import Derived.Test.YtphdpjfkpidofaaPagS
import Derived.Test.YtphdpjfkpidofaaLaxB
namespace Go.Proofs.Ytphdpjfkpidofaa
open Go.RowKit Go.Own
namespace Pag
open Go.PagM Byt
set_option maxRecDepth 10000 in
set_option maxHeartbeats 4000000 in
theorem walk_lays (f : Frm) (ao : Option Addr) (n cap : Nat) {w : World} (hg : Given w ao n cap f.data) (K : Kept w) :
    Calls Try.prog 3 #[frV f.kind.toNat f.first f.last (.slice ao n cap)] w (RetYes w) := by
  obtain ⟨Y, hY⟩ : ∃ Y, Y = lay f := ⟨_, rfl⟩
  have C1 : Hid (∀ wx, Below w.heap.size w wx → n ≤ 10000 → Calls Try.prog 12 #[frV f.kind.toNat f.first f.last (.slice ao n cap)] wx (LayDone Y wx)) := by
    intro wx hwx hn
    rw [hY]
    exact K.lay f ao n cap hwx (hg.later hwx) (by omega)
  have C2 : Hid (∀ wx, Below w.heap.size w wx → n ≤ 10000 → Calls Try.prog 13 #[frV f.kind.toNat f.first f.last (.slice ao n cap)] wx (LayDone Y wx)) := by
    intro wx hwx hn
    rw [hY]
    exact refLay_any f ao n cap wx (hg.later hwx) (by omega)
  obtain ⟨kind, first, last, data⟩ := f
  simp only at C1 C2 hg ⊢
  have H0 := Lib.hid ((Own.St.start w).boxV 24 (frC kind.toNat first last (.slice ao n cap)).toList)
  have CS := Lib.hid (shown_any K H0.out.below)
  clear hY hg K
  go_enter Try.func3, Try.ntmps3
  go_wp2_with (fail)
  refine CS.out.mono ?_
  clear CS
  rintro e w1 ⟨rfl, hb1⟩
  have H1 := Lib.hid (H0.out.later hb1)
  obtain ⟨b0, hb0⟩ : ∃ b, b = w.heap.size := ⟨_, rfl⟩
  have c3 := (H1.out.cellV 0 rfl 3 rfl).1
  have c2 := (H1.out.cellV 0 rfl 2 rfl).1
  have c1 := (H1.out.cellV 0 rfl 1 rfl).1
  have c0 := (H1.out.cellV 0 rfl 0 rfl).1
  clear hb1 H0
  by_cases hlong : (10000 : Int) < (n : Int)
  · clear hb0
    go_wp2
    go_ret
    exact ⟨rfl, H1.out.below⟩
  have hn : n ≤ 10000 := by omega
  have D1 := Lib.hid (C1.out w1 H1.out.below hn)
  clear C1 hb0
  go_wp2_with (fail)
  refine D1.out.mono ?_
  clear D1
  rintro e w2 ⟨a2, k2, rfl, hg2, hb2⟩
  have G2 := Lib.hid hg2
  have H2 := Lib.hid (H1.out.later hb2)
  have D2 := Lib.hid (C2.out w2 H2.out.below hn)
  have c3 := (H2.out.cellV 0 rfl 3 rfl).1
  have c2 := (H2.out.cellV 0 rfl 2 rfl).1
  have c1 := (H2.out.cellV 0 rfl 1 rfl).1
  have c0 := (H2.out.cellV 0 rfl 0 rfl).1
  clear hg2 hb2 H1 C2
  go_wp2_with (fail)
  refine D2.out.mono ?_
  clear D2
  rintro e w3 ⟨a3, k3, rfl, hg3, hb3⟩
  have G3 := Lib.hid hg3
  have H3 := Lib.hid (H2.out.later hb3)
  have G2b := Lib.hid (G2.out.later hb3)
  have HSM : Hid (decide (Y.1 = Y.1) = true) := decide_eq_true rfl
  clear hg3 hb3 H2 G2 c0 c1 c2 c3
  go_wp2_with (first
    | (refine Byt.wpList_str8 rfl (.tmp 26) rfl a2 _ k2 rfl _ _ G2b.out.view G2b.out.size ?_)
    | (refine Byt.wpList_str8 rfl (.tmp 28) rfl a3 _ k3 rfl _ _ G3.out.view G3.out.size ?_)
    | (refine Byt.wpList_val rfl (eql_str rfl _ _ true HSM.out _ _ rfl rfl) ?_))
  go_ret
  exact ⟨rfl, H3.out.below⟩

set_option maxRecDepth 10000 in
set_option maxHeartbeats 4000000 in
theorem walk_joins (ao : Option Addr) (n cap : Nat) (L : List PagM.Bs) {w : World} (hg : GivenL w ao n cap L) (K : Kept w) :
    Calls Try.prog 6 #[.slice ao n cap] w (RetYes w) := by
  obtain ⟨m, hm⟩ : ∃ m, m = fewN L := ⟨_, rfl⟩
  have hmn : m ≤ n := by rw [hm, ← hg.size]; exact fewF_le L 0
  have hm70 : m ≤ 70 := by rw [hm]; exact fewF_most L 0 (by decide)
  have hsh : ∀ p ∈ L.take m, p.length ≤ 1000000 := by rw [hm]; exact fun p hp => Nat.le_trans (fewF_short L 0 p hp) (by decide)
  have hgm := givenL_take hg m hmn
  obtain ⟨Y, hY⟩ : ∃ Y, Y = join (L.take m) := ⟨_, rfl⟩
  have CF : Hid (∀ wx, Below w.heap.size w wx → Calls Try.prog 20 #[.slice ao n cap] wx fun e w' => e = .returned (.slice ao m cap) ∧ w' = wx) := by
    intro wx hwx
    rw [hm]
    exact few_any ao n cap L wx (hg.later hwx)
  have C1 : Hid (∀ wx, Below w.heap.size w wx → Calls Try.prog 19 #[.slice ao m cap] wx (JoinDone Y wx)) := by
    intro wx hwx
    rw [hY]
    exact K.join ao m cap _ hwx (hgm.later hwx) (by omega) hsh
  have C2 : Hid (∀ wx, Below w.heap.size w wx → Calls Try.prog 21 #[.slice ao m cap] wx (JoinDone Y wx)) := by
    intro wx hwx
    rw [hY]
    exact refJoin_any ao m cap _ wx (hgm.later hwx) (by omega) hsh
  have CS : Hid (∀ wx, Below w.heap.size w wx → Calls Try.prog 11 #[] wx (RetYes wx)) := fun wx hwx => shown_any K hwx
  clear hm hmn hm70 hsh hgm hY hg K
  have D0 := Lib.hid (CF.out w (Below.refl _ _))
  go_enter Try.func6, Try.ntmps6
  go_wp2_with (fail)
  refine D0.out.mono ?_
  rintro e w1 ⟨rfl, rfl⟩
  have D1 := Lib.hid (C1.out w1 (Below.refl _ _))
  clear D0 C1
  go_wp2_with (fail)
  refine D1.out.mono ?_
  clear D1
  rintro e w2 ⟨a2, k2, rfl, hg2, hb2⟩
  have G2 := Lib.hid hg2
  have B2 := Lib.hid hb2
  have D2 := Lib.hid (CF.out w2 hb2)
  clear hg2 hb2 CF
  go_wp2_with (fail)
  refine D2.out.mono ?_
  rintro e w3 ⟨rfl, rfl⟩
  have D3 := Lib.hid (C2.out w3 B2.out)
  clear D2 C2
  go_wp2_with (fail)
  refine D3.out.mono ?_
  clear D3
  rintro e w4 ⟨a4, k4, rfl, hg4, hb4⟩
  have G4 := Lib.hid hg4
  have B4 := Lib.hid (B2.out.trans (hb4.mono B2.out.size))
  have G2b := Lib.hid (G2.out.later hb4)
  have D4 := Lib.hid (CS.out w4 B4.out)
  clear hg4 hb4 CS G2
  go_wp2_with (fail)
  refine D4.out.mono ?_
  clear D4
  rintro e w5 ⟨rfl, hb5⟩
  have G4c := Lib.hid (G4.out.later hb5)
  have G2c := Lib.hid (G2b.out.later hb5)
  have B5 := Lib.hid (B4.out.trans (hb5.mono B4.out.size))
  have HSM : Hid (decide (Y.1.2.1 = Y.1.2.1) = true) := decide_eq_true rfl
  clear hb5 G4 G2b
  go_wp2_with (first
    | (refine Byt.wpList_str8 rfl (.tmp 34) rfl a2 _ k2 rfl _ _ G2c.out.view G2c.out.size ?_)
    | (refine Byt.wpList_str8 rfl (.tmp 36) rfl a4 _ k4 rfl _ _ G4c.out.view G4c.out.size ?_)
    | (refine Byt.wpList_val rfl (eql_str rfl _ _ true HSM.out _ _ rfl rfl) ?_))
  go_ret
  exact ⟨rfl, B5.out⟩
end Pag
end Go.Proofs.Ytphdpjfkpidofaa
