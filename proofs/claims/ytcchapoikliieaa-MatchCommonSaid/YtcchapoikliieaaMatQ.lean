/- What the landed package match keeps (a premise of the walks: 'Kept'; to be proved of the landed code), and the examples at the head of all statements. -/
import Derived.Test.YtcchapoikliieaaMatT
import Derived.Test.YtcchapoikliieaaGiv
import Derived.Lib.SlBytesConst
namespace Go.Proofs.Ytcchapoikliieaa
open Go.RowKit Go.Own
namespace Mat
open Go.MatM Byt

def RetYes (w : World) (e : Ending) (w' : World) : Prop := e = .returned (.bool true) ∧ Below w.heap.size w w'

structure Kept (W : World) : Prop where
  common : ∀ ao len cap l (i k : Int) w, Below W.heap.size W w → Given w ao len cap l → len ≤ 10000 → -9223372036854775808 ≤ i → i ≤ 9223372036854775807 → -9223372036854775808 ≤ k → k ≤ 9223372036854775807 →
    Calls Try.prog 11 #[.slice ao len cap, .int .i64 i, .int .i64 k] w fun e w' => e = .returned (.int .i64 (comI l i k : Nat)) ∧ Below w.heap.size w w'
  longest : ∀ ao len cap l (t : Int) w, Below W.heap.size W w → Given w ao len cap l → len ≤ 10000 → -9223372036854775808 ≤ t → t ≤ 9223372036854775807 →
    Calls Try.prog 14 #[.slice ao len cap, .int .i64 t] w fun e w' => e = .returned (pairV (longI l t)) ∧ Below w.heap.size w w'
  all : ∀ ao len cap l w, Below W.heap.size W w → Given w ao len cap l → len ≤ 10000 → Calls Try.prog 16 #[.slice ao len cap] w (AllDone l len w)
theorem Kept.later {W W' : World} (K : Kept W) (g : Below W.heap.size W W') : Kept W' :=
  ⟨fun ao len cap l i k w h => K.common ao len cap l i k w (g.trans (h.mono g.size)), fun ao len cap l t w h => K.longest ao len cap l t w (g.trans (h.mono g.size)), fun ao len cap l w h => K.all ao len cap l w (g.trans (h.mono g.size))⟩

set_option maxHeartbeats 800000 in
theorem shown_any {w : World} (K : Kept w) : Calls Try.prog 10 #[] w (RetYes w) := by
  have kc := fun (wx : World) (C : Array Value) (n c : Nat) => Lib.run_convert_bytes_const (P := Try.prog) wx 22 5 C n c Try.underlying22 Try.underlying5
  have CC : Hid (∀ (l : Bs) (n : Nat) (t : Int) (d m : Nat) wx, Below w.heap.size w wx → l.length = n → n ≤ 1000 → 0 ≤ t → t < (n : Int) → longest l t.toNat = (d, m) → Calls Try.prog 14 #[.slice (some ⟨wx.heap.size, 0, none⟩) n n, .int .i64 t] (wx.alloc (.cells (l.map byteV).toArray 5 (n, n + 1))) fun e w' => e = .returned (.tuple #[.int .i64 (d : Int), .int .i64 (m : Int)]) ∧ Below w.heap.size w w') := by
    intro l n t d m wx hwx hn hb h0 h1 hl
    have hba : Below w.heap.size w (wx.alloc (.cells (l.map byteV).toArray 5 (n, n + 1))) := hwx.trans (((Own.St.start wx).alloc _).below.mono hwx.size)
    have h := K.longest _ n n l t _ hba (given_new wx l n hn hb 5 (n, n + 1)) (by omega) (by omega) (by omega)
    have e : longI l t = (d, m) := by unfold longI; rw [if_pos ⟨h0, by rw [hn]; exact h1⟩, hl]
    rw [e] at h
    exact h.mono fun e w' ⟨he, hb'⟩ => ⟨he, hba.trans (hb'.mono hba.size)⟩
  go_enter Try.func10, Try.ntmps10
  go_wp2_with (fail)
  refine (CC.out [97, 98, 99, 97, 98, 99, 97, 98] 8 3 3 5 w (Below.refl _ _) rfl (by decide) (by decide) (by decide) (by decide +kernel)).mono ?_
  rintro e w1 ⟨rfl, h1⟩
  have B1 := Lib.hid h1
  clear h1
  go_wp2_with (fail)
  refine (CC.out [97, 98, 99, 97, 98, 99, 97, 98] 8 1 0 0 w1 B1.out rfl (by decide) (by decide) (by decide) (by decide +kernel)).mono ?_
  rintro e w2 ⟨rfl, h2⟩
  have B2 := Lib.hid h2
  clear h2
  go_wp2_with (fail)
  refine (CC.out [97, 97, 97, 97, 97] 5 1 1 4 w2 B2.out rfl (by decide) (by decide) (by decide) (by decide +kernel)).mono ?_
  rintro e w3 ⟨rfl, h3⟩
  have B3 := Lib.hid h3
  clear h3
  go_wp2_with (fail)
  go_ret
  exact ⟨rfl, B3.out⟩

/-- the first bytes -/
def fw (l : Bs) : Bs := l.take 1000
theorem fw_len (l : Bs) : (fw l).length = min l.length 1000 := by unfold fw; rw [List.length_take]; omega
theorem few_any (ao : Option Addr) (l : List UInt8) (cap : Nat) (w : World) (hno : ao = none → l = [] ∧ cap = 0) (hl : l.length ≤ cap) (hc : cap ≤ maxLen) :
    Calls Try.prog 12 #[.slice ao l.length cap] w fun e w' => e = .returned (.slice ao (fw l).length cap) ∧ w = w' := by
  unfold maxLen at hc
  cases ao with
  | none =>
    obtain ⟨rfl, rfl⟩ := hno rfl
    go_enter Try.func12, Try.ntmps12
    go_wp2
    go_ret
    exact ⟨rfl, rfl⟩
  | some a =>
    have hf := Lib.hid (fw_len l)
    obtain ⟨len, hlen⟩ : ∃ len, len = l.length := ⟨_, rfl⟩
    rw [← hlen] at hl hf ⊢
    clear hlen hno
    have hm : Hid (min len 1000 = (min (len : Int) 1000).toNat) := by show min len 1000 = _; omega
    go_enter Try.func12, Try.ntmps12
    go_wp2
    go_ret
    exact ⟨by rw [hf.out, hm.out]; rfl, rfl⟩
/-- bytes that came in: their first ones, and what 'few' answers -/
theorem few_in {l : Bs} {w : World} {ao : Option Addr} {n cap : Nat} (h : inBytes l w.heap.size w [.slice ao n cap]) : ∃ m, m ≤ 1000 ∧ Given w ao m cap (fw l) ∧ ∀ wx, Calls Try.prog 12 #[.slice ao n cap] wx fun e w' => e = .returned (.slice ao m cap) ∧ wx = w' := by
  obtain ⟨ao', cap', h1, h2, h3, h4, h5⟩ := h
  simp only [List.cons.injEq, Value.slice.injEq, and_true] at h1
  obtain ⟨rfl, rfl, rfl⟩ := h1
  refine ⟨(fw l).length, by rw [fw_len]; omega, ⟨vtake h5 1000, rfl, ⟨by rw [fw_len]; omega, h3⟩, h4⟩, fun wx => few_any ao l cap wx (fun e => ⟨vnone h5 e, h4 e⟩) h2 h3⟩
set_option maxHeartbeats 800000 in
theorem walk_common (a0 : Option Addr) (len0 cap0 : Nat) (x0 : Bs) (i : Int) (wi : (Lit.int .i64 i).wf = true) (k : Int) (wk : (Lit.int .i64 k).wf = true) {w : World} (w0 : inBytes x0 w.heap.size w [.slice a0 len0 cap0]) (K : Kept w) :
    Calls Try.prog 3 #[.slice a0 len0 cap0, .int .i64 i, .int .i64 k] w (RetYes w) := by
  obtain ⟨m, hm, hg, hf⟩ := few_in w0
  have HI := i64_in wi
  have HK := i64_in wk
  have HF := Lib.hid hf
  have SH := Lib.hid (shown_any K)
  obtain ⟨c, hc⟩ : ∃ c, c = comI (fw x0) i k := ⟨_, rfl⟩
  have C1 : Hid (∀ wx, Below w.heap.size w wx → Calls Try.prog 11 #[.slice a0 m cap0, .int .i64 i, .int .i64 k] wx fun e w' => e = .returned (.int .i64 (c : Int)) ∧ Below wx.heap.size wx w') := by
    intro wx hwx; rw [hc]; exact K.common a0 m cap0 _ i k wx hwx (hg.later hwx) (by omega) HI.1 HI.2 HK.1 HK.2
  have C2 : Hid (∀ wx, Below w.heap.size w wx → Calls Try.prog 13 #[.slice a0 m cap0, .int .i64 i, .int .i64 k] wx fun e w' => e = .returned (.int .i64 (c : Int)) ∧ Below wx.heap.size wx w') := by
    intro wx hwx; rw [hc]; exact refCommon_any a0 m cap0 _ i k wx (hg.later hwx).view hg.size (by omega)
  clear hc hg hf w0 wi wk K HI HK
  go_enter Try.func3, Try.ntmps3
  go_wp2_with (fail)
  refine SH.out.mono ?_
  rintro e w1 ⟨rfl, h1⟩
  have B1 := Lib.hid h1
  clear h1
  go_wp2_with (fail)
  refine (HF.out w1).mono ?_
  rintro e w2 ⟨rfl, rfl⟩
  go_wp2_with (fail)
  refine (C1.out w1 B1.out).mono ?_
  rintro e w3 ⟨rfl, h3⟩
  have B3 := Lib.hid (B1.out.trans (h3.mono B1.out.size))
  clear h3
  go_wp2_with (fail)
  refine (HF.out w3).mono ?_
  rintro e w4 ⟨rfl, rfl⟩
  go_wp2_with (fail)
  refine (C2.out w3 B3.out).mono ?_
  rintro e w5 ⟨rfl, h5⟩
  have B5 := Lib.hid (B3.out.trans (h5.mono B3.out.size))
  clear h5
  go_wp2_with (fail)
  go_ret
  exact ⟨rfl, B5.out⟩

set_option maxHeartbeats 800000 in
theorem walk_longest (a0 : Option Addr) (len0 cap0 : Nat) (x0 : Bs) (t : Int) (wt : (Lit.int .i64 t).wf = true) {w : World} (w0 : inBytes x0 w.heap.size w [.slice a0 len0 cap0]) (K : Kept w) :
    Calls Try.prog 4 #[.slice a0 len0 cap0, .int .i64 t] w (RetYes w) := by
  obtain ⟨m, hm, hg, hf⟩ := few_in w0
  have HI := i64_in wt
  have HF := Lib.hid hf
  have SH := Lib.hid (fun wx (hwx : Below w.heap.size w wx) => shown_any (K.later hwx))
  obtain ⟨d, n, hdn⟩ : ∃ d n, longI (fw x0) t = (d, n) := ⟨_, _, rfl⟩
  have C1 : Hid (∀ wx, Below w.heap.size w wx → Calls Try.prog 14 #[.slice a0 m cap0, .int .i64 t] wx fun e w' => e = .returned (.tuple #[.int .i64 (d : Int), .int .i64 (n : Int)]) ∧ Below wx.heap.size wx w') := by
    intro wx hwx
    have h := K.longest a0 m cap0 _ t wx hwx (hg.later hwx) (by omega) HI.1 HI.2
    rw [hdn] at h; exact h
  have C2 : Hid (∀ wx, Below w.heap.size w wx → Calls Try.prog 15 #[.slice a0 m cap0, .int .i64 t] wx fun e w' => e = .returned (.tuple #[.int .i64 (d : Int), .int .i64 (n : Int)]) ∧ Below wx.heap.size wx w') := by
    intro wx hwx
    have h := refLongest_any a0 m cap0 _ t wx (hg.later hwx).view hg.size (by omega)
    rw [hdn] at h; exact h
  clear hdn hg hf w0 wt K HI
  go_enter Try.func4, Try.ntmps4
  go_wp2_with (fail)
  refine (HF.out w).mono ?_
  rintro e w2 ⟨rfl, rfl⟩
  go_wp2_with (fail)
  refine (C1.out w (Below.refl _ _)).mono ?_
  rintro e w3 ⟨rfl, h3⟩
  have B3 := Lib.hid h3
  clear h3
  go_wp2_with (fail)
  refine (HF.out w3).mono ?_
  rintro e w4 ⟨rfl, rfl⟩
  go_wp2_with (fail)
  refine (C2.out w3 B3.out).mono ?_
  rintro e w5 ⟨rfl, h5⟩
  have B5 := Lib.hid (B3.out.trans (h5.mono B3.out.size))
  clear h5
  go_wp2_with (fail)
  refine (SH.out w5 B5.out).mono ?_
  rintro e w6 ⟨rfl, h6⟩
  have B6 := Lib.hid (B5.out.trans (h6.mono B5.out.size))
  clear h6
  go_wp2_with (fail)
  go_ret
  exact ⟨rfl, B6.out⟩

end Mat
end Go.Proofs.Ytcchapoikliieaa
