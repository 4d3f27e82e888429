/- LzPacks, LzUnpacks: the walks. -/
import Derived.Test.YthmnaofmpijbiaaLzQ
namespace Go.Proofs.Ythmnaofmpijbiaa
open Go.RowKit Go.Own
namespace Lz
open Go.MatM Go.LzM Byt

theorem refUnpack_st {ao : Option Addr} {n cap : Nat} {p r : Bs} {x : Int} {m k : Nat} {w : World} (g : Given w ao n cap p) (hn : n ≤ 20000) (h0 : -9223372036854775808 ≤ x) (h1 : x ≤ 9223372036854775807) (hr : unpack p x.toNat = (r, k)) (hm : r.length = m) :
    Calls Try.prog 14 #[.slice ao n cap, .int .i64 x] w fun e w' => ∃ a c, e = .returned (.tuple #[.slice a m c, .int .i64 (k : Int)]) ∧ Given w' a m c r ∧ Below w.heap.size w w' := by
  subst hm
  refine (refUnpack_any ao n cap p x w g (by omega) h0 h1).mono ?_
  rw [hr]
  rintro e w' ⟨v, rfl, a, c, rfl, h1, h2⟩
  exact ⟨a, c, rfl, h1, h2⟩

set_option maxHeartbeats 1600000 in
theorem walk_unpacks (a0 : Option Addr) (len0 cap0 : Nat) (x0 : Bs) (most : Int) (wm : (Lit.int .i64 most).wf = true) {w : World} (w0 : inBytes x0 w.heap.size w [.slice a0 len0 cap0]) (K : Kept w) :
    Calls Try.prog 4 #[.slice a0 len0 cap0, .int .i64 most] w (RetYes w) := by
  have G := in_given w0
  obtain ⟨m, hm⟩ : ∃ m, m = min len0 5000 := ⟨_, rfl⟩
  have hmin : min (len0 : Int) 5000 = (m : Int) := by omega
  have hmn : m ≤ len0 := by omega
  have g := given_take G m hmn
  obtain ⟨x, hx⟩ : ∃ x, x = x0.take m := ⟨_, rfl⟩
  rw [← hx] at g
  have HI := i64_in wm
  obtain ⟨t, ht⟩ : ∃ t, t = min most 100000 := ⟨_, rfl⟩
  have hmin2 : min most 100000 = t := ht.symm
  obtain ⟨r, k, hr⟩ : ∃ r k, unpack x t.toNat = (r, k) := ⟨_, _, rfl⟩
  obtain ⟨j, hj⟩ : ∃ j, r.length = j := ⟨_, rfl⟩
  have C1 : Hid (∀ wx, Below w.heap.size w wx → Calls Try.prog 13 #[.slice a0 m cap0, .int .i64 t] wx fun e w' => ∃ a c, e = .returned (.tuple #[.slice a j c, .int .i64 (k : Int)]) ∧ Given w' a j c r ∧ Below wx.heap.size wx w') :=
    fun wx hwx => unpack_st K hwx (g.later hwx) (by omega) (by omega) (by omega) hr hj
  have C2 : Hid (∀ wx, Below w.heap.size w wx → Calls Try.prog 14 #[.slice a0 m cap0, .int .i64 t] wx fun e w' => ∃ a c, e = .returned (.tuple #[.slice a j c, .int .i64 (k : Int)]) ∧ Given w' a j c r ∧ Below wx.heap.size wx w') :=
    fun wx hwx => refUnpack_st (g.later hwx) (by omega) (by omega) (by omega) hr hj
  have SH := Lib.hid (shown_any K)
  have hCT := cutTo (ao := a0) (l := x0) (m := len0) (cap := cap0) m G.size hmn G.room.1 G.room.2 G.nil
  have CT := Lib.hid hCT.1
  clear hCT hm hx ht hr hj G g HI w0 wm K
  go_enter Try.func4, Try.ntmps4
  go_wp2_with (fail)
  refine SH.out.mono ?_
  rintro e w1 ⟨rfl, h1⟩
  have B1 := Lib.hid h1
  clear h1
  go_wp2_with (refine Byt.wpList_val rfl (CT.out _ (.tmp 13) (.tmp 16) rfl _ _ rfl rfl) ?_)
  refine (C1.out w1 B1.out).mono ?_
  rintro e w2 ⟨a2, c2, rfl, g2, h2⟩
  have B2 := Lib.hid (B1.out.trans (h2.mono B1.out.size))
  have G2 := Lib.hid g2
  clear h2 g2
  go_wp2_with (fail)
  refine (C2.out w2 B2.out).mono ?_
  rintro e w3 ⟨a3, c3, rfl, g3, h3⟩
  have B3 := Lib.hid (B2.out.trans (h3.mono B2.out.size))
  have G3 := Lib.hid g3
  have G23 := Lib.hid (G2.out.later h3)
  clear h3 g3
  go_wp2_with (first
    | (refine wpList_str8 rfl (.tmp 34) rfl a2 j c2 rfl _ r G23.out.view G23.out.size ?_)
    | (refine wpList_str8 rfl (.tmp 36) rfl a3 j c3 rfl _ r G3.out.view G3.out.size ?_))
  go_ret
  exact ⟨rfl, B3.out⟩

/-- a slot that reads as these bytes -/
def tyR (l : Bs) : Ty := ⟨fun v w => ∃ ao c, v = .slice ao l.length c ∧ Given w ao l.length c l, fun ⟨ao, c, h1, h2⟩ g => ⟨ao, c, h1, h2.later g⟩⟩
theorem tyR_str {l : Bs} {v : Value} {w : World} (h : (tyR l).holds v w) : (convert 22 9 v).run Try.prog w = .ok (.string (strB l)) w := by
  obtain ⟨ao, c, rfl, g⟩ := h
  exact run_str (P := Try.prog) 22 5 9 Try.underlying22 Try.underlying5 Try.underlying9 g.view c
theorem reads_ty {l : Bs} {e : Ending} {w w' : World} (h : ∃ v, e = .returned v ∧ Reads l w v w') : ∃ v, e = .returned v ∧ (tyR l).holds v w' ∧ Below w.heap.size w w' := by
  obtain ⟨v, he, a, c, hv, h1, h2⟩ := h
  exact ⟨v, he, ⟨a, c, hv, h1⟩, h2⟩
/-- the first bytes -/
theorem few_st {w : World} {ao : Option Addr} {n cap : Nat} {l : Bs} (g : Given w ao n cap l) {m : Nat} (hm : m = min n 700) (wx : World) : Calls Try.prog 11 #[.slice ao n cap] wx fun e w' => e = .returned (.slice ao m cap) ∧ Below wx.heap.size wx w' := by
  have hmin : min (n : Int) 700 = (m : Int) := by omega
  have hCT := cutTo (ao := ao) (l := l) (m := n) (cap := cap) m g.size (by omega) g.room.1 g.room.2 g.nil
  have CT := Lib.hid hCT.1
  clear hCT hm g
  go_enter Try.func11, Try.ntmps11
  go_wp2_with (refine Byt.wpList_val rfl (CT.out _ (.tmp 3) (.tmp 6) rfl _ _ rfl rfl) ?_)
  go_ret
  exact ⟨rfl, Below.refl _ _⟩

set_option maxHeartbeats 1600000 in
theorem walk_packs (a0 : Option Addr) (len0 cap0 : Nat) (x0 : Bs) {w : World} (w0 : inBytes x0 w.heap.size w [.slice a0 len0 cap0]) (K : Kept w) :
    Calls Try.prog 3 #[.slice a0 len0 cap0] w (RetYes w) := by
  have G := in_given w0
  obtain ⟨m, hm⟩ : ∃ m, m = min len0 700 := ⟨_, rfl⟩
  have g := given_take G m (by omega)
  obtain ⟨x, hx⟩ : ∃ x, x = x0.take m := ⟨_, rfl⟩
  rw [← hx] at g
  have C1 : Hid (∀ wx, Below w.heap.size w wx → Calls Try.prog 10 #[.slice a0 m cap0] wx fun e w' => ∃ v, e = .returned v ∧ (tyR (pack x)).holds v w' ∧ Below wx.heap.size wx w') :=
    fun wx hwx => (K.pack a0 m cap0 x wx hwx (g.later hwx) (by omega)).mono fun e w' h => reads_ty h
  have C2 : Hid (∀ wx, Below w.heap.size w wx → Calls Try.prog 12 #[.slice a0 m cap0] wx fun e w' => ∃ v, e = .returned v ∧ (tyR (pack x)).holds v w' ∧ Below wx.heap.size wx w') :=
    fun wx hwx => (refPack_any a0 m cap0 x wx (g.later hwx) (by omega)).mono fun e w' h => reads_ty h
  have SH : Hid (∀ wx, Below w.heap.size w wx → Calls Try.prog 9 #[] wx (RetYes wx)) := fun wx hwx => shown_any (K.later hwx)
  have HF := Lib.hid (few_st G hm)
  clear hm hx G g w0 K
  go_enter Try.func3, Try.ntmps3
  go_wp2_with (fail)
  refine wp_lax_list (by kernel_rfl) (by kernel_rfl) (by kernel_rfl) ?_
  refine wpL_fn (.bool true) [] rfl (by kernel_rfl) (by kernel_rfl) (by kernel_rfl) (by kernel_rfl) (fun _ _ => by simp [go_sem]) (fun wx hwx => SH.out wx hwx) ?_
  refine wpL_move (.bool true) rfl (by kernel_rfl) (by kernel_rfl) (by kernel_rfl) (by kernel_rfl) ?_
  refine wpL_move (.slice a0 len0 cap0) rfl (by kernel_rfl) (by kernel_rfl) (by kernel_rfl) (by kernel_rfl) ?_
  refine wpL_fn (.slice a0 m cap0) [.slice a0 len0 cap0] rfl (by kernel_rfl) (by kernel_rfl) (by kernel_rfl) (by kernel_rfl) (fun _ _ => by simp [go_sem]) (fun wx hwx => HF.out wx) ?_
  refine wpL_fnT (tyR (pack x)) [.slice a0 m cap0] rfl rfl (by kernel_rfl) (by kernel_rfl) (by kernel_rfl) (by kernel_rfl) (fun _ _ => by simp [go_sem]) (fun wx hwx => C1.out wx hwx) ?_
  refine wpL_conv (.string (strB (pack x))) rfl rfl (by kernel_rfl) (by kernel_rfl) (fun u wx hwx hu => tyR_str hu) ?_
  refine wpL_move (.slice a0 len0 cap0) rfl (by kernel_rfl) (by kernel_rfl) (by kernel_rfl) (by kernel_rfl) ?_
  refine wpL_fn (.slice a0 m cap0) [.slice a0 len0 cap0] rfl (by kernel_rfl) (by kernel_rfl) (by kernel_rfl) (by kernel_rfl) (fun _ _ => by simp [go_sem]) (fun wx hwx => HF.out wx) ?_
  refine wpL_fnT (tyR (pack x)) [.slice a0 m cap0] rfl rfl (by kernel_rfl) (by kernel_rfl) (by kernel_rfl) (by kernel_rfl) (fun _ _ => by simp [go_sem]) (fun wx hwx => C2.out wx hwx) ?_
  refine wpL_conv (.string (strB (pack x))) rfl rfl (by kernel_rfl) (by kernel_rfl) (fun u wx hwx hu => tyR_str hu) ?_
  refine wpL_run2 (x := .tmp 8) (y := .tmp 12) (.string (strB (pack x))) (.string (strB (pack x))) (.bool true) (by kernel_rfl) (by kernel_rfl) (by kernel_rfl) (by kernel_rfl) (by kernel_rfl) (by kernel_rfl) (fun wx ρ hwx h0 h1 hc => by simp [go_sem, h0, h1, hc]) ?_
  refine wpL_run2 (x := .tmp 4) (y := .tmp 13) (.bool true) (.bool true) (.bool true) (by kernel_rfl) (by kernel_rfl) (by kernel_rfl) (by kernel_rfl) (by kernel_rfl) (by kernel_rfl) (fun wx ρ hwx h0 h1 hc => by simp [go_sem, h0, h1]) ?_
  refine wpL_assign (.bool true) rfl (by kernel_rfl) (by kernel_rfl) (by kernel_rfl) (by kernel_rfl) ?_
  refine wpL_end (by kernel_rfl) (fun wd hwd => ?_)
  simp only [FinL, setL, List.set_cons_zero, List.set_cons_succ]
  intro v1 _ v2 _
  go_wp2
  go_ret
  exact ⟨rfl, hwd⟩
end Lz
end Go.Proofs.Ythmnaofmpijbiaa
