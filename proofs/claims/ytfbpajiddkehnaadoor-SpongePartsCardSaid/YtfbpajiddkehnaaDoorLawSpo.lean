/- SpongeSums, SpongeNil: the walks. -/
import Derived.Test.YtfbpajiddkehnaaDoorSpoQ
namespace Go.Proofs.YtfbpajiddkehnaaDoor
open Go.RowKit Go.Own
namespace Spo
open Go.KecM Go.SpoM Byt

/-- the first bytes -/
def fw (l : List UInt8) : List UInt8 := l.take 20000
theorem fw_len (l : List UInt8) : (fw l).length = min l.length 20000 := by unfold fw; rw [List.length_take]; omega
theorem few_any (ao : Option Addr) (l : List UInt8) (cap : Nat) (w : World) (hno : ao = none → l = [] ∧ cap = 0) (hl : l.length ≤ cap) (hc : cap ≤ maxLen) :
    Calls Tryd.prog 10 #[.slice ao l.length cap] w fun e w' => e = .returned (.slice ao (fw l).length cap) ∧ w = w' := by
  unfold maxLen at hc
  cases ao with
  | none =>
    obtain ⟨rfl, rfl⟩ := hno rfl
    go_enter Tryd.func10, Tryd.ntmps10
    go_wp2
    go_ret
    exact ⟨rfl, rfl⟩
  | some a =>
    have hf := Lib.hid (fw_len l)
    obtain ⟨len, hlen⟩ : ∃ len, len = l.length := ⟨_, rfl⟩
    rw [← hlen] at hl hf ⊢
    clear hlen hno
    have hm : Hid (min len 20000 = (min (len : Int) 20000).toNat) := by show min len 20000 = _; omega
    go_enter Tryd.func10, Tryd.ntmps10
    go_wp2
    go_ret
    exact ⟨by rw [hf.out, hm.out]; rfl, rfl⟩

/-- bytes that came in -/
theorem in_bytes {l : List UInt8} {w : World} {ao : Option Addr} {n cap : Nat} (h : inBytes l w.heap.size w [.slice ao n cap]) :
    n = l.length ∧ n ≤ cap ∧ cap ≤ maxLen ∧ (ao = none → l = [] ∧ cap = 0) ∧ View w (fun k => k < w.heap.size) ao l := by
  obtain ⟨ao', cap', h1, h2, h3, h4, h5⟩ := h
  simp only [List.cons.injEq, Value.slice.injEq, and_true] at h1
  obtain ⟨rfl, rfl, rfl⟩ := h1
  exact ⟨rfl, h2, h3, fun e => ⟨vnone h5 e, h4 e⟩, h5⟩
theorem few_in {l : List UInt8} {W w : World} {ao : Option Addr} {n cap m : Nat} (h : inBytes l W.heap.size W [.slice ao n cap]) (hm : (fw l).length = m) :
    Calls Tryd.prog 10 #[.slice ao n cap] w fun e w' => e = .returned (.slice ao m cap) ∧ w = w' := by
  obtain ⟨rfl, h1, h2, h3, _⟩ := in_bytes h
  subst hm
  exact few_any ao l cap w h3 h1 h2
/-- what came in reads so in every later world -/
theorem view_in {l : List UInt8} {w : World} {ao : Option Addr} (h : View w (fun k => k < w.heap.size) ao l) : ∀ wx, Below w.heap.size w wx → View wx (fun k => k < wx.heap.size) ao l :=
  fun wx hwx => (View.below h hwx).mono (fun k hk => by have := hwx.size; omega)

set_option maxHeartbeats 800000 in
theorem walk_sums (a0 : Option Addr) (len0 cap0 : Nat) (x0 : List UInt8) {w : World} (w0 : inBytes x0 w.heap.size w [.slice a0 len0 cap0]) (K : Kept w) :
    Calls Tryd.prog 3 #[.slice a0 len0 cap0] w (RetYes w) := by
  obtain ⟨m, hm⟩ : ∃ m, (fw x0).length = m := ⟨_, rfl⟩
  have hmb : m ≤ 20000 := by rw [← hm, fw_len]; omega
  obtain ⟨hl, hc1, hc2, hc3, hv⟩ := in_bytes w0
  have hmc : m ≤ cap0 := by rw [← hm, fw_len]; omega
  have HF := Lib.hid (fun (w2 : World) => few_in (w := w2) w0 hm)
  have HV := Lib.hid (view_in (vtake hv 20000))
  have HM := Lib.hid hm
  have H3 : Hid (a0 = none → cap0 = 0) := fun h => (hc3 h).2
  have HC2 := Lib.hid hc2
  have SH := Lib.hid (shown_any K)
  obtain ⟨S, hS⟩ : ∃ l, l = sha (fw x0) := ⟨_, rfl⟩
  have LS : Hid (S.length = 32) := by rw [hS]; exact sha_len _
  have C1 : Hid (∀ wx, Below w.heap.size w wx → Calls Tryd.prog 9 #[.slice (some ⟨wx.heap.size, 0, none⟩) 1 1] (wx.alloc (.cells #[.slice a0 m cap0] 22)) fun e w' => e = .returned (.agg (S.map byteV).toArray) ∧ Below wx.heap.size wx w') := by
    intro wx hwx
    have hp := parts_one (HV.out wx hwx) HM.out hmc HC2.out H3.out 22
    have hb : Below w.heap.size w (wx.alloc (.cells #[.slice a0 m cap0] 22)) := hwx.trans (((Own.St.start wx).alloc _).below.mono hwx.size)
    have h := K.all _ _ _ hb hp (by simp only [List.flatten_cons, List.flatten_nil, List.append_nil]; rw [show (List.take 20000 x0).length = m from HM.out]; omega) (by simp)
    simp only [List.flatten_cons, List.flatten_nil, List.append_nil] at h
    refine h.mono fun e w' ⟨he, hb'⟩ => ⟨by rw [he, hS]; rfl, ((Own.St.start wx).alloc _).below.trans (hb'.mono (by simp))⟩
  have C2 : Hid (∀ wx, Below w.heap.size w wx → Calls Tryd.prog 11 #[.slice a0 m cap0] wx fun e w' => e = .returned (.agg (S.map byteV).toArray) ∧ Below wx.heap.size wx w') := by
    intro wx hwx
    rw [hS]
    exact shaRef_any a0 m cap0 (fw x0) wx (HV.out wx hwx) HM.out H3.out (by omega)
  clear hS hl hc1 hc2 hc3 hv w0 hm hmc K
  go_enter Tryd.func3, Tryd.ntmps3
  go_wp2_with (fail)
  refine SH.out.mono ?_
  rintro e w1 ⟨rfl, hw1⟩
  have B1 := Lib.hid hw1
  clear hw1
  go_wp2_with (fail)
  refine (HF.out w1).mono ?_
  rintro e w2 ⟨rfl, rfl⟩
  go_wp2_with (fail)
  refine (C1.out w1 B1.out).mono ?_
  rintro e w3 ⟨rfl, hw3⟩
  have B3 := Lib.hid (B1.out.trans (hw3.mono B1.out.size))
  clear hw3 B1
  go_wp2_with (fail)
  refine (HF.out w3).mono ?_
  rintro e w4 ⟨rfl, rfl⟩
  go_wp2_with (fail)
  refine (C2.out w3 B3.out).mono ?_
  rintro e w5 ⟨rfl, hw5⟩
  have B5 := Lib.hid (B3.out.trans (hw5.mono B3.out.size))
  clear hw5 B3
  go_wp2_with (refine wpList_eql_sum rfl 8 11 rfl LS.out LS.out (decide_eq_true rfl) rfl rfl ?_)
  go_ret
  exact ⟨rfl, B5.out⟩

set_option maxHeartbeats 800000 in
theorem walk_nil (a0 : Option Addr) (len0 cap0 : Nat) (x0 : List UInt8) {w : World} (w0 : inBytes x0 w.heap.size w [.slice a0 len0 cap0]) (K : Kept w) :
    Calls Tryd.prog 7 #[.slice a0 len0 cap0] w (RetYes w) := by
  obtain ⟨S, hS⟩ : ∃ l, l = sha [] := ⟨_, rfl⟩
  have LS : Hid (S.length = 32) := by rw [hS]; exact sha_len _
  have C0 := Lib.hid (fun wx => K.nilWrite a0 len0 cap0 wx)
  have SH := Lib.hid (fun wx (hwx : Below w.heap.size w wx) => shown_any (w := wx) (K.later hwx))
  have C1 : Hid (∀ wx, Below w.heap.size w wx → Calls Tryd.prog 14 #[.pointer none] wx fun e w' => e = .returned (.agg (S.map byteV).toArray) ∧ Below wx.heap.size wx w') := by
    intro wx hwx; rw [hS]; exact K.nilSum wx hwx
  have C2 : Hid (∀ wx, Below w.heap.size w wx → Calls Tryd.prog 9 #[.slice none 0 0] wx fun e w' => e = .returned (.agg (S.map byteV).toArray) ∧ Below wx.heap.size wx w') := by
    intro wx hwx; rw [hS]; exact K.all _ [] wx hwx (.inl ⟨rfl, rfl⟩) (by simp) (by simp)
  clear hS K w0
  go_enter Tryd.func7, Tryd.ntmps7
  go_wp2_with (fail)
  refine (C0.out w).mono ?_
  rintro e w1 ⟨rfl, hw1⟩
  have B1 := Lib.hid hw1
  clear hw1
  go_wp2_with (fail)
  refine (SH.out w1 B1.out).mono ?_
  rintro e w2 ⟨rfl, hw2⟩
  have B2 := Lib.hid (B1.out.trans (hw2.mono B1.out.size))
  clear hw2 B1
  go_wp2_with (fail)
  refine (C1.out w2 B2.out).mono ?_
  rintro e w3 ⟨rfl, hw3⟩
  have B3 := Lib.hid (B2.out.trans (hw3.mono B2.out.size))
  clear hw3 B2
  go_wp2_with (fail)
  refine (C2.out w3 B3.out).mono ?_
  rintro e w4 ⟨rfl, hw4⟩
  have B4 := Lib.hid (B3.out.trans (hw4.mono B3.out.size))
  clear hw4 B3
  go_wp2_with (refine wpList_eql_sum rfl 10 11 rfl LS.out LS.out (decide_eq_true rfl) rfl rfl ?_)
  go_ret
  exact ⟨rfl, B4.out⟩

end Spo
end Go.Proofs.YtfbpajiddkehnaaDoor
