/- What the landed package lz keeps (a premise of the walks: 'Kept'; to be proved of the landed code), and the examples at the head of all statements. -/
import Derived.Test.YthmnaofmpijbiaaLzU
import Derived.Test.YthmnaofmpijbiaaLaxB
import Derived.Lib.SlBytesConst
namespace Go.Proofs.Ythmnaofmpijbiaa
open Go.RowKit Go.Own
namespace Lz
open Go.MatM Go.LzM Byt

def RetYes (w : World) (e : Ending) (w' : World) : Prop := e = .returned (.bool true) ∧ Below w.heap.size w w'

structure Kept (W : World) : Prop where
  pack : ∀ ao n cap l w, Below W.heap.size W w → Given w ao n cap l → n ≤ 10000 → Calls Try.prog 10 #[.slice ao n cap] w fun e w' => ∃ v, e = .returned v ∧ Reads (pack l) w v w'
  unpack : ∀ ao n cap p (most : Int) w, Below W.heap.size W w → Given w ao n cap p → n ≤ 20000 → -9223372036854775808 ≤ most → most ≤ 9223372036854775807 →
    Calls Try.prog 13 #[.slice ao n cap, .int .i64 most] w (UnDone (unpack p most.toNat) w)
theorem Kept.later {W W' : World} (K : Kept W) (g : Below W.heap.size W W') : Kept W' :=
  ⟨fun ao n cap l w h => K.pack ao n cap l w (g.trans (h.mono g.size)), fun ao n cap p m w h => K.unpack ao n cap p m w (g.trans (h.mono g.size))⟩

/-- a call of Pack, its answer known -/
theorem pack_st {W : World} (K : Kept W) {ao : Option Addr} {n cap : Nat} {l r : Bs} {m : Nat} {w : World} (h : Below W.heap.size W w) (g : Given w ao n cap l) (hn : n ≤ 10000) (hr : pack l = r) (hm : r.length = m) :
    Calls Try.prog 10 #[.slice ao n cap] w fun e w' => ∃ a c, e = .returned (.slice a m c) ∧ Given w' a m c r ∧ Below w.heap.size w w' := by
  subst hr hm
  refine (K.pack ao n cap l w h g hn).mono ?_
  rintro e w' ⟨v, rfl, a, c, rfl, h1, h2⟩
  exact ⟨a, c, rfl, h1, h2⟩
theorem unpack_st {W : World} (K : Kept W) {ao : Option Addr} {n cap : Nat} {p r : Bs} {x : Int} {m k : Nat} {w : World} (h : Below W.heap.size W w) (g : Given w ao n cap p) (hn : n ≤ 20000) (h0 : -9223372036854775808 ≤ x) (h1 : x ≤ 9223372036854775807) (hr : unpack p x.toNat = (r, k)) (hm : r.length = m) :
    Calls Try.prog 13 #[.slice ao n cap, .int .i64 x] w fun e w' => ∃ a c, e = .returned (.tuple #[.slice a m c, .int .i64 (k : Int)]) ∧ Given w' a m c r ∧ Below w.heap.size w w' := by
  subst hm
  refine (K.unpack ao n cap p x w h g hn h0 h1).mono ?_
  rw [hr]
  rintro e w' ⟨v, rfl, a, c, rfl, h1, h2⟩
  exact ⟨a, c, rfl, h1, h2⟩

set_option maxHeartbeats 1600000 in
theorem shown_any {w : World} (K : Kept w) : Calls Try.prog 9 #[] w (RetYes w) := by
  have kc := fun (wx : World) (C : Array Value) (n c : Nat) => Lib.run_convert_bytes_const (P := Try.prog) wx 22 5 C n c Try.underlying22 Try.underlying5
  have CP : Hid (∀ (l r : Bs) (n m : Nat) (fz : Nat × Nat) wx, Below w.heap.size w wx → l.length = n → n ≤ 1000 → pack l = r → r.length = m → Calls Try.prog 10 #[.slice (some ⟨wx.heap.size, 0, none⟩) n n] (wx.alloc (.cells (l.map byteV).toArray 5 fz)) fun e w' => ∃ a c, e = .returned (.slice a m c) ∧ Given w' a m c r ∧ Below wx.heap.size wx w') := by
    intro l r n m fz wx hwx hn hb hr hm
    have hba : Below w.heap.size w (wx.alloc (.cells (l.map byteV).toArray 5 fz)) := hwx.trans (((Own.St.start wx).alloc _).below.mono hwx.size)
    refine (pack_st K hba (given_new wx l n hn hb 5 fz) (by omega) hr hm).mono ?_
    rintro e w' ⟨a, c, he, h1, h2⟩
    have hbx : Below wx.heap.size wx (wx.alloc (.cells (l.map byteV).toArray 5 fz)) := ((Own.St.start wx).alloc _).below
    exact ⟨a, c, he, h1, hbx.trans (h2.mono hbx.size)⟩
  have CU : Hid (∀ (l r : Bs) (n m k : Nat) (x : Int) (fz : Nat × Nat) wx, Below w.heap.size w wx → l.length = n → n ≤ 1000 → 0 ≤ x → x ≤ 1000 → unpack l x.toNat = (r, k) → r.length = m → Calls Try.prog 13 #[.slice (some ⟨wx.heap.size, 0, none⟩) n n, .int .i64 x] (wx.alloc (.cells (l.map byteV).toArray 5 fz)) fun e w' => ∃ a c, e = .returned (.tuple #[.slice a m c, .int .i64 (k : Int)]) ∧ Given w' a m c r ∧ Below wx.heap.size wx w') := by
    intro l r n m k x fz wx hwx hn hb h0 h1 hr hm
    have hba : Below w.heap.size w (wx.alloc (.cells (l.map byteV).toArray 5 fz)) := hwx.trans (((Own.St.start wx).alloc _).below.mono hwx.size)
    refine (unpack_st K hba (given_new wx l n hn hb 5 fz) (by omega) (by omega) (by omega) hr hm).mono ?_
    rintro e w' ⟨a, c, he, h1, h2⟩
    have hbx : Below wx.heap.size wx (wx.alloc (.cells (l.map byteV).toArray 5 fz)) := ((Own.St.start wx).alloc _).below
    exact ⟨a, c, he, h1, hbx.trans (h2.mono hbx.size)⟩
  have CN : Hid (∀ wx, Below w.heap.size w wx → Calls Try.prog 10 #[.slice none 0 0] wx fun e w' => ∃ a c, e = .returned (.slice a 1 c) ∧ Given w' a 1 c [0] ∧ Below wx.heap.size wx w') := by
    intro wx hwx
    exact pack_st K hwx (l := []) ⟨.inl rfl, rfl, ⟨Nat.le_refl _, Nat.zero_le _⟩, fun _ => rfl⟩ (by omega) (by decide +kernel) rfl
  clear K
  go_enter Try.func9, Try.ntmps9
  go_wp2_with (fail)
  refine (CP.out [97, 97, 97, 97, 97, 97, 97, 97] [1, 0, 97, 132, 0] 8 5 (8, 9) w (Below.refl _ _) rfl (by decide) (by decide +kernel) rfl).mono ?_
  rintro e w1 ⟨a1, c1, rfl, g1, h1⟩
  have B1 := Lib.hid h1
  have G1 := Lib.hid g1
  clear h1 g1
  go_wp2_with (fail)
  refine (CU.out [1, 0, 97, 132, 0] [97, 97, 97, 97, 97, 97, 97, 97] 5 8 0 8 (0, 0) w1 B1.out rfl (by decide) (by decide) (by decide) (by decide +kernel) rfl).mono ?_
  rintro e w2 ⟨a2, c2, rfl, g2, h2⟩
  have B2 := Lib.hid (B1.out.trans (h2.mono B1.out.size))
  have G2 := Lib.hid g2
  have G12 := Lib.hid (G1.out.later h2)
  clear h2 g2
  go_wp2_with (fail)
  refine (CU.out [1, 0, 97, 132, 0] [] 5 0 4 7 (0, 0) w2 B2.out rfl (by decide) (by decide) (by decide) (by decide +kernel) rfl).mono ?_
  rintro e w3 ⟨a3, c3, rfl, _, h3⟩
  have B3 := Lib.hid (B2.out.trans (h3.mono B2.out.size))
  have G13 := Lib.hid (G12.out.later h3)
  have G23 := Lib.hid (G2.out.later h3)
  clear h3
  go_wp2_with (fail)
  refine (CU.out [1, 128, 0] [] 3 0 60 99 (0, 0) w3 B3.out rfl (by decide) (by decide) (by decide) (by decide +kernel) rfl).mono ?_
  rintro e w4 ⟨a4, c4, rfl, _, h4⟩
  have B4 := Lib.hid (B3.out.trans (h4.mono B3.out.size))
  have G14 := Lib.hid (G13.out.later h4)
  have G24 := Lib.hid (G23.out.later h4)
  clear h4
  go_wp2_with (fail)
  refine (CN.out w4 B4.out).mono ?_
  rintro e w5 ⟨a5, c5, rfl, g5, h5⟩
  have B5 := Lib.hid (B4.out.trans (h5.mono B4.out.size))
  have G5 := Lib.hid g5
  have G15 := Lib.hid (G14.out.later h5)
  have G25 := Lib.hid (G24.out.later h5)
  have hs1 : (strB [0]).toList = [0] := strB_toList _
  have hs2 : (strB [1, 0, 97, 132, 0]).toList = [1, 0, 97, 132, 0] := strB_toList _
  have hs3 : (strB [97, 97, 97, 97, 97, 97, 97, 97]).toList = [97, 97, 97, 97, 97, 97, 97, 97] := strB_toList _
  clear h5 g5 kc
  go_wp2_with (first
    | (refine wpList_str8 rfl (.tmp 26) rfl a5 1 c5 rfl _ [0] G5.out.view rfl ?_)
    | (refine wpList_str8 rfl (.tmp 30) rfl a1 5 c1 rfl _ [1, 0, 97, 132, 0] G15.out.view rfl ?_)
    | (refine wpList_str8 rfl (.tmp 35) rfl a2 8 c2 rfl _ [97, 97, 97, 97, 97, 97, 97, 97] G25.out.view rfl ?_))
  go_ret
  exact ⟨rfl, B5.out⟩

end Lz
end Go.Proofs.Ythmnaofmpijbiaa
