/- Layer 10: the six walks. -/
import Derived.Test.YtefbcoakjdjkgaaRecS
import Derived.Test.YtefbcoakjdjkgaaLaxB
import Derived.Test.YtefbcoakjdjkgaaAdo
namespace Go.Proofs.Ytefbcoakjdjkgaa
open Go.RowKit Go.Own
namespace Rec
open Go.RecM Byt
theorem xor85 (c : UInt8) : bits .xor .u8 (c.toNat : Int) 85 = (((c ^^^ 85 : UInt8)).toNat : Int) := by
  have h := u8_xor_nat c.toNat 85 c.toNat_lt (by decide)
  rw [UInt8.toNat_xor]
  exact h
theorem take_sum (p : RecM.Bs) : (RecM.take p).1.sum.length = 32 ∧ (RecM.take p).1.data.length ≤ 300 := by
  by_cases h : IsNote p
  · obtain ⟨n, f, hr, rfl⟩ := h
    rw [take_laid f hr]
    exact ⟨f.sum, right_data hr⟩
  · rw [take_none h]
    exact ⟨rfl, by decide⟩
theorem rng {B : Nat} {w0 w : World} {Ps : List Asn} {b : Nat} {t : TypeId} {cs : List Value} (H : Own.St B w0 w Ps) (i : Nat) (hi : Ps[i]? = some (AVals b t cs)) : w.rangeAt b 0 cs := fun j v hv => by
  rw [Nat.zero_add]; exact (H.cellV i hi j hv).1
theorem lay_right {n : Nte} (h : right n = true) : lay n = (laid n, 0) := lay_of h
theorem lay_wrong {n : Nte} (h : right n = false) : lay n = ([], 1) := by unfold lay; rw [h]; rfl
theorem oneN {n : Nte} {v : Value} (hv : v.oneCell' = true) (cs : List Value) (h : cs = ntC n v) : cs.toArray.all (·.oneCell') = true := by rw [h]; exact all_oneCell_toArray (ntC_one hv)

set_option maxRecDepth 10000 in
set_option maxHeartbeats 8000000 in
theorem walk_lays (n : Nte) (f : Fits n) (ao : Option Addr) (len cap : Nat) {w : World} (hg : Given w ao len cap n.data) (K : Kept w) :
    Calls Try.prog 3 #[ntV n (.slice ao len cap)] w (RetYes w) := by
  obtain ⟨cs, hcs⟩ : ∃ cs, cs = ntC n (.slice ao len cap) := ⟨_, rfl⟩
  show Calls Try.prog _ #[.agg (ntC n (.slice ao len cap)).toArray] w _
  rw [← hcs]
  obtain ⟨rt, hrt⟩ : ∃ b, b = right n := ⟨_, rfl⟩
  obtain ⟨P, hP⟩ : ∃ P, P = pagesN n := ⟨_, rfl⟩
  obtain ⟨Y, hY⟩ : ∃ Y, Y = lay n := ⟨_, rfl⟩
  have NL : Hid (cs.length = 37) := by show _ = _; rw [hcs]; exact ntC_len n _ f.sum
  have KR1 : Hid (∀ wx, Below w.heap.size w wx → len ≤ 10000 → Calls Try.prog 12 #[.agg cs.toArray] wx fun e w' => e = .returned (.bool rt) ∧ Below wx.heap.size wx w') := by
    intro wx hwx hn
    rw [hcs, hrt]
    exact K.right n ao len cap f hwx (hg.later hwx) (by omega)
  have KL1 : Hid (∀ wx, Below w.heap.size w wx → len ≤ 10000 → Calls Try.prog 10 #[.agg cs.toArray] wx (LayDone Y wx)) := by
    intro wx hwx hn
    rw [hcs, hY]
    exact K.lay n ao len cap f hwx (hg.later hwx) (by omega)
  have KP1 : Hid (∀ wx, Below w.heap.size w wx → len ≤ 10000 → Calls Try.prog 14 #[.agg cs.toArray] wx fun e w' => e = .returned (.int .i64 (P : Int)) ∧ Below wx.heap.size wx w') := by
    intro wx hwx hn
    rw [hcs, hP]
    exact K.pages n ao len cap f hwx (hg.later hwx) (by omega)
  have KR2 : Hid (∀ wx, Below w.heap.size w wx → len ≤ 10000 → Calls Try.prog 13 #[.agg cs.toArray] wx fun e w' => e = .returned (.bool rt) ∧ Below wx.heap.size wx w') := by
    intro wx hwx hn
    rw [hcs, hrt]
    exact right_any n f.sum ao len cap hg.size (by omega) wx
  have KL2 : Hid (∀ wx, Below w.heap.size w wx → len ≤ 10000 → Calls Try.prog 11 #[.agg cs.toArray] wx (LayDone Y wx)) := by
    intro wx hwx hn
    rw [hcs, hY]
    exact (refLay_new n f ao len cap wx (hg.later hwx) (by omega)).mono fun _ _ h => h.done
  have KP2 : Hid (∀ wx, Below w.heap.size w wx → len ≤ 10000 → Calls Try.prog 15 #[.agg cs.toArray] wx fun e w' => e = .returned (.int .i64 (P : Int)) ∧ Below wx.heap.size wx w') := by
    intro wx hwx hn
    rw [hcs, hP]
    exact refPages_any n f ao len cap wx (hg.later hwx) (by omega)
  obtain ⟨b, hb⟩ : ∃ b, b = w.heap.size := ⟨_, rfl⟩
  obtain ⟨w1, hw1⟩ : ∃ w1, w1 = w.alloc (.cells cs.toArray 30) := ⟨_, rfl⟩
  have H0 : Hid (Own.St w.heap.size w w1 [AVals b 30 cs]) := by rw [hb, hw1]; exact (Own.St.start w).boxV _ _
  have CS := Lib.hid (shown_any K H0.out.below)
  have C36 : Hid (cs[36]? = some (.slice ao len cap)) := by show _ = _; rw [hcs]; exact ntC_data n _ f.sum
  have HCS := Lib.hid hcs
  have HRT := Lib.hid hrt
  have HPP := Lib.hid hP
  have HY := Lib.hid hY
  have HG := Lib.hid hg
  have HF := Lib.hid f
  have HB := Lib.hid hb
  have HW1 := Lib.hid hw1
  clear hcs hrt hP hY hg f hb hw1
  go_enter Try.func3, Try.ntmps3
  go_wp2_with (fail)
  rw [← HW1.out, ← HB.out]
  refine CS.out.mono ?_
  clear CS
  rintro e w2 ⟨rfl, hb2⟩
  have H2 := Lib.hid (H0.out.later hb2)
  have c36 := (H2.out.cellV 0 rfl 36 C36.out).1
  clear hb2 H0 HW1
  by_cases hlong : (10000 : Int) < (len : Int)
  · clear HB
    go_wp2
    go_ret
    exact ⟨rfl, H2.out.below⟩
  have hn : len ≤ 10000 := by omega
  have hdec : decide ((10000 : Int) < (len : Int)) = false := decide_eq_false hlong
  have R2 : Hid (w2.rangeAt b 0 cs) := rng H2.out 0 rfl
  go_wp2_with (refine wpList_val rfl (load_note cs NL.out rfl _ (b := b) (k := 0) R2.out rfl) ?_)
  refine (KL1.out w2 H2.out.below hn).mono ?_
  clear KL1 R2 c36
  rintro e w3 ⟨a2, k2, rfl, hg2, hb3⟩
  have G2 := Lib.hid hg2
  have H3 := Lib.hid (H2.out.later hb3)
  have R3 : Hid (w3.rangeAt b 0 cs) := rng H3.out 0 rfl
  clear hg2 hb3 H2
  go_wp2_with (refine wpList_val rfl (load_note cs NL.out rfl _ (b := b) (k := 0) R3.out rfl) ?_)
  refine (KL2.out w3 H3.out.below hn).mono ?_
  clear KL2 R3
  rintro e w4 ⟨a3, k3, rfl, hg3, hb4⟩
  have H4 := Lib.hid (H3.out.later hb4)
  have G2b := Lib.hid (G2.out.later hb4)
  have RL : Hid (∀ wx, Below w4.heap.size w4 wx → wx.rangeAt b 0 cs) := fun wx hwx => rng (H4.out.later hwx) 0 rfl
  have V2 : Hid (∀ wx, Below w4.heap.size w4 wx → (convert 28 9 (.slice a2 Y.1.length k2)).run Try.prog wx = .ok (strV Y.1) wx) := fun wx h => given_str (G2b.out.later h)
  have V3 : Hid (∀ wx, Below w4.heap.size w4 wx → (convert 28 9 (.slice a3 Y.1.length k3)).run Try.prog wx = .ok (strV Y.1) wx) := fun wx h => given_str (hg3.later h)
  have CR1 : Hid (∀ wx, Below w4.heap.size w4 wx → Calls Try.prog 12 #[.agg cs.toArray] wx fun e w' => e = .returned (.bool rt) ∧ Below wx.heap.size wx w') := fun wx h => KR1.out wx (H4.out.below.trans (h.mono H4.out.below.size)) hn
  have CR2 : Hid (∀ wx, Below w4.heap.size w4 wx → Calls Try.prog 13 #[.agg cs.toArray] wx fun e w' => e = .returned (.bool rt) ∧ Below wx.heap.size wx w') := fun wx h => KR2.out wx (H4.out.below.trans (h.mono H4.out.below.size)) hn
  have CP1 : Hid (∀ wx, Below w4.heap.size w4 wx → Calls Try.prog 14 #[.agg cs.toArray] wx fun e w' => e = .returned (.int .i64 (P : Int)) ∧ Below wx.heap.size wx w') := fun wx h => KP1.out wx (H4.out.below.trans (h.mono H4.out.below.size)) hn
  have CP2 : Hid (∀ wx, Below w4.heap.size w4 wx → Calls Try.prog 15 #[.agg cs.toArray] wx fun e w' => e = .returned (.int .i64 (P : Int)) ∧ Below wx.heap.size wx w') := fun wx h => KP2.out wx (H4.out.below.trans (h.mono H4.out.below.size)) hn
  clear hg3 hb4 H3 G2 G2b KR1 KR2 KP1 KP2
  go_wp2_with (fail)
  refine wp_lax_list (by kernel_rfl) (by kernel_rfl) (by kernel_rfl) ?_
  refine wpL_move (.bool true) rfl (by kernel_rfl) (by kernel_rfl) (by kernel_rfl) (by kernel_rfl) ?_
  refine wpL_move (.bool true) rfl (by kernel_rfl) (by kernel_rfl) (by kernel_rfl) (by kernel_rfl) ?_
  refine wpL_run1 (x := .tmp 1) (.pointer (some ⟨b, 0, none⟩)) (.agg cs.toArray) (by kernel_rfl) (by kernel_rfl) (by kernel_rfl) (by kernel_rfl) (by kernel_rfl) (fun wx ρ hwx h0 hc => load_note cs NL.out rfl ρ (RL.out wx hwx) h0) ?_
  refine wpL_fn (.bool rt) [.agg cs.toArray] rfl (by kernel_rfl) (by kernel_rfl) (by kernel_rfl) (by kernel_rfl) (fun _ _ => by simp [go_sem]) (fun wx hwx => CR1.out wx hwx) ?_
  refine wpL_run1 (x := .tmp 1) (.pointer (some ⟨b, 0, none⟩)) (.agg cs.toArray) (by kernel_rfl) (by kernel_rfl) (by kernel_rfl) (by kernel_rfl) (by kernel_rfl) (fun wx ρ hwx h0 hc => load_note cs NL.out rfl ρ (RL.out wx hwx) h0) ?_
  refine wpL_fn (.bool rt) [.agg cs.toArray] rfl (by kernel_rfl) (by kernel_rfl) (by kernel_rfl) (by kernel_rfl) (fun _ _ => by simp [go_sem]) (fun wx hwx => CR2.out wx hwx) ?_
  refine wpL_run2 (x := .tmp 27) (y := .tmp 29) (.bool rt) (.bool rt) (.bool true) (by kernel_rfl) (by kernel_rfl) (by kernel_rfl) (by kernel_rfl) (by kernel_rfl) (by kernel_rfl) (fun wx ρ hwx h0 h1 hc => by simp [go_sem, h0, h1, hc]) ?_
  refine wpL_run2 (x := .tmp 25) (y := .tmp 30) (.bool true) (.bool true) (.bool true) (by kernel_rfl) (by kernel_rfl) (by kernel_rfl) (by kernel_rfl) (by kernel_rfl) (by kernel_rfl) (fun wx ρ hwx h0 h1 hc => by simp [go_sem, h0, h1]) ?_
  refine wpL_move (.bool true) rfl (by kernel_rfl) (by kernel_rfl) (by kernel_rfl) (by kernel_rfl) ?_
  refine wpL_move (.slice a2 Y.1.length k2) rfl (by kernel_rfl) (by kernel_rfl) (by kernel_rfl) (by kernel_rfl) ?_
  refine wpL_convK (.slice a2 Y.1.length k2) (strV Y.1) rfl (by kernel_rfl) (by kernel_rfl) (by kernel_rfl) (by kernel_rfl) (fun wx hwx => V2.out wx hwx) ?_
  refine wpL_move (.slice a3 Y.1.length k3) rfl (by kernel_rfl) (by kernel_rfl) (by kernel_rfl) (by kernel_rfl) ?_
  refine wpL_convK (.slice a3 Y.1.length k3) (strV Y.1) rfl (by kernel_rfl) (by kernel_rfl) (by kernel_rfl) (by kernel_rfl) (fun wx hwx => V3.out wx hwx) ?_
  refine wpL_run2 (x := .tmp 34) (y := .tmp 36) (strV Y.1) (strV Y.1) (.bool true) (by kernel_rfl) (by kernel_rfl) (by kernel_rfl) (by kernel_rfl) (by kernel_rfl) (by kernel_rfl) (fun wx ρ hwx h0 h1 hc => by simp [go_sem, h0, h1, hc]) ?_
  refine wpL_run2 (x := .tmp 32) (y := .tmp 37) (.bool true) (.bool true) (.bool true) (by kernel_rfl) (by kernel_rfl) (by kernel_rfl) (by kernel_rfl) (by kernel_rfl) (by kernel_rfl) (fun wx ρ hwx h0 h1 hc => by simp [go_sem, h0, h1]) ?_
  refine wpL_move (.bool true) rfl (by kernel_rfl) (by kernel_rfl) (by kernel_rfl) (by kernel_rfl) ?_
  refine wpL_move (errN Y.2) rfl (by kernel_rfl) (by kernel_rfl) (by kernel_rfl) (by kernel_rfl) ?_
  refine wpL_move (errN Y.2) rfl (by kernel_rfl) (by kernel_rfl) (by kernel_rfl) (by kernel_rfl) ?_
  refine wpL_run2 (x := .tmp 40) (y := .tmp 41) (errN Y.2) (errN Y.2) (.bool true) (by kernel_rfl) (by kernel_rfl) (by kernel_rfl) (by kernel_rfl) (by kernel_rfl) (by kernel_rfl) (fun wx ρ hwx h0 h1 hc => by simp [go_sem, h0, h1, hc]) ?_
  refine wpL_run2 (x := .tmp 39) (y := .tmp 42) (.bool true) (.bool true) (.bool true) (by kernel_rfl) (by kernel_rfl) (by kernel_rfl) (by kernel_rfl) (by kernel_rfl) (by kernel_rfl) (fun wx ρ hwx h0 h1 hc => by simp [go_sem, h0, h1]) ?_
  refine wpL_move (.bool true) rfl (by kernel_rfl) (by kernel_rfl) (by kernel_rfl) (by kernel_rfl) ?_
  refine wpL_run1 (x := .tmp 1) (.pointer (some ⟨b, 0, none⟩)) (.agg cs.toArray) (by kernel_rfl) (by kernel_rfl) (by kernel_rfl) (by kernel_rfl) (by kernel_rfl) (fun wx ρ hwx h0 hc => load_note cs NL.out rfl ρ (RL.out wx hwx) h0) ?_
  refine wpL_fn (.int .i64 (P : Int)) [.agg cs.toArray] rfl (by kernel_rfl) (by kernel_rfl) (by kernel_rfl) (by kernel_rfl) (fun _ _ => by simp [go_sem]) (fun wx hwx => CP1.out wx hwx) ?_
  refine wpL_run1 (x := .tmp 1) (.pointer (some ⟨b, 0, none⟩)) (.agg cs.toArray) (by kernel_rfl) (by kernel_rfl) (by kernel_rfl) (by kernel_rfl) (by kernel_rfl) (fun wx ρ hwx h0 hc => load_note cs NL.out rfl ρ (RL.out wx hwx) h0) ?_
  refine wpL_fn (.int .i64 (P : Int)) [.agg cs.toArray] rfl (by kernel_rfl) (by kernel_rfl) (by kernel_rfl) (by kernel_rfl) (fun _ _ => by simp [go_sem]) (fun wx hwx => CP2.out wx hwx) ?_
  refine wpL_run2 (x := .tmp 46) (y := .tmp 48) (.int .i64 (P : Int)) (.int .i64 (P : Int)) (.bool true) (by kernel_rfl) (by kernel_rfl) (by kernel_rfl) (by kernel_rfl) (by kernel_rfl) (by kernel_rfl) (fun wx ρ hwx h0 h1 hc => by simp [go_sem, h0, h1, hc]) ?_
  refine wpL_run2 (x := .tmp 44) (y := .tmp 49) (.bool true) (.bool true) (.bool true) (by kernel_rfl) (by kernel_rfl) (by kernel_rfl) (by kernel_rfl) (by kernel_rfl) (by kernel_rfl) (fun wx ρ hwx h0 h1 hc => by simp [go_sem, h0, h1]) ?_
  refine wpL_assign (.bool true) rfl (by kernel_rfl) (by kernel_rfl) (by kernel_rfl) (by kernel_rfl) ?_
  refine wpL_end (by kernel_rfl) (fun w5 hw5 => ?_)
  simp only [FinL, setL, List.set_cons_zero, List.set_cons_succ]
  have B5 := Lib.hid (H4.out.below.trans (hw5.mono H4.out.below.size))
  clear hw5
  go_wp2
  go_ret
  exact ⟨rfl, B5.out⟩

set_option maxRecDepth 10000 in
set_option maxHeartbeats 8000000 in
theorem walk_long (n : Nte) (f : Fits n) (ao : Option Addr) (len cap : Nat) {w : World} (hg : Given w ao len cap n.data) (K : Kept w) :
    Calls Try.prog 8 #[ntV n (.slice ao len cap)] w (RetYes w) := by
  obtain ⟨cs, hcs⟩ : ∃ cs, cs = ntC n (.slice ao len cap) := ⟨_, rfl⟩
  show Calls Try.prog _ #[.agg (ntC n (.slice ao len cap)).toArray] w _
  rw [← hcs]
  obtain ⟨rt, hrt⟩ : ∃ b, b = right n := ⟨_, rfl⟩
  obtain ⟨P, hP⟩ : ∃ P, P = pagesN n := ⟨_, rfl⟩
  obtain ⟨Y, hY⟩ : ∃ Y, Y = lay n := ⟨_, rfl⟩
  have NL : Hid (cs.length = 37) := by show _ = _; rw [hcs]; exact ntC_len n _ f.sum
  have KR1 : Hid (∀ wx, Below w.heap.size w wx → len ≤ 10000 → Calls Try.prog 12 #[.agg cs.toArray] wx fun e w' => e = .returned (.bool rt) ∧ Below wx.heap.size wx w') := by
    intro wx hwx hn
    rw [hcs, hrt]
    exact K.right n ao len cap f hwx (hg.later hwx) (by omega)
  have KL1 : Hid (∀ wx, Below w.heap.size w wx → len ≤ 10000 → Calls Try.prog 10 #[.agg cs.toArray] wx (LayDone Y wx)) := by
    intro wx hwx hn
    rw [hcs, hY]
    exact K.lay n ao len cap f hwx (hg.later hwx) (by omega)
  have KP1 : Hid (∀ wx, Below w.heap.size w wx → len ≤ 10000 → Calls Try.prog 14 #[.agg cs.toArray] wx fun e w' => e = .returned (.int .i64 (P : Int)) ∧ Below wx.heap.size wx w') := by
    intro wx hwx hn
    rw [hcs, hP]
    exact K.pages n ao len cap f hwx (hg.later hwx) (by omega)
  obtain ⟨b, hb⟩ : ∃ b, b = w.heap.size := ⟨_, rfl⟩
  obtain ⟨w1, hw1⟩ : ∃ w1, w1 = w.alloc (.cells cs.toArray 30) := ⟨_, rfl⟩
  have H0 : Hid (Own.St w.heap.size w w1 [AVals b 30 cs]) := by rw [hb, hw1]; exact (Own.St.start w).boxV _ _
  have CS := Lib.hid (shown_any K H0.out.below)
  have C36 : Hid (cs[36]? = some (.slice ao len cap)) := by show _ = _; rw [hcs]; exact ntC_data n _ f.sum
  have HCS := Lib.hid hcs
  have HRT := Lib.hid hrt
  have HPP := Lib.hid hP
  have HY := Lib.hid hY
  have HG := Lib.hid hg
  have HF := Lib.hid f
  have HB := Lib.hid hb
  have HW1 := Lib.hid hw1
  clear hcs hrt hP hY hg f hb hw1
  go_enter Try.func8, Try.ntmps8
  go_wp2_with (fail)
  rw [← HW1.out, ← HB.out]
  refine CS.out.mono ?_
  clear CS
  rintro e w2 ⟨rfl, hb2⟩
  have H2 := Lib.hid (H0.out.later hb2)
  have c36 := (H2.out.cellV 0 rfl 36 C36.out).1
  clear hb2 H0 HW1
  by_cases hlong : (10000 : Int) < (len : Int)
  · clear HB
    go_wp2
    go_ret
    exact ⟨rfl, H2.out.below⟩
  have hn : len ≤ 10000 := by omega
  have hdec : decide ((10000 : Int) < (len : Int)) = false := decide_eq_false hlong
  have R2 : Hid (w2.rangeAt b 0 cs) := rng H2.out 0 rfl
  go_wp2_with (refine wpList_val rfl (load_note cs NL.out rfl _ (b := b) (k := 0) R2.out rfl) ?_)
  refine (KR1.out w2 H2.out.below hn).mono ?_
  clear KR1 R2 c36
  rintro e w3 ⟨rfl, hb3⟩
  have H3 := Lib.hid (H2.out.later hb3)
  have c36 := (H3.out.cellV 0 rfl 36 C36.out).1
  clear hb3 H2
  cases rt
  · go_wp2
    go_ret
    exact ⟨rfl, H3.out.below⟩
  have R3 : Hid (w3.rangeAt b 0 cs) := rng H3.out 0 rfl
  have HYY : Hid (Y = (laid n, 0)) := HY.out.trans (lay_right HRT.out.symm)
  obtain ⟨Lb, hLb⟩ : ∃ l, l = laid n := ⟨_, rfl⟩
  obtain ⟨L, hL⟩ : ∃ L, L = Lb.length := ⟨_, rfl⟩
  have HLL := Lib.hid hL
  have hsm : L ≤ 351 ∧ 0 < L := by rw [hL, hLb]; exact laid_small HF.out HRT.out.symm
  have CL : Hid (∀ wx, Below w.heap.size w wx → Calls Try.prog 10 #[.agg cs.toArray] wx fun e w' => ∃ ao cap, e = .returned (.tuple #[.slice ao L cap, errN 0]) ∧ Given w' ao L cap Lb ∧ Below wx.heap.size wx w') := by
    intro wx hwx
    have h := KL1.out wx hwx hn
    rw [HYY.out, ← hLb] at h
    unfold LayDone at h
    simp only [← hL] at h
    exact h
  have hlen : L = sizeN n := by rw [hL, hLb]; exact laid_len HF.out
  have hPi : P = (L + 124) / 125 := by rw [HPP.out]; unfold pagesN; rw [← HRT.out, if_pos rfl, hL, hLb]
  have hk := right_kind HRT.out.symm
  have hdl := HG.out.size
  have K0 : Hid (cs[0]? = some (.int .u8 (n.kind.toNat : Int))) := by show _ = _; rw [HCS.out]; rfl
  clear KL1 hL hLb
  rcases hk with k | k | k | k
  · have hs : L = 51 + len := by rw [hlen]; unfold sizeN; simp only [k, hdl]; rfl
    have k0 : Hid ((n.kind.toNat : Int) = 1) := by show _ = _; rw [k]; rfl
    have hP9 : P ≤ 4 := by omega
    have e1 : ((L : Int) == 51 + (len : Int)) = true := by rw [beq_iff_eq]; omega
    have e2 : ((P : Int) == (51 + (len : Int) + 125 - 1) / 125) = true := by rw [beq_iff_eq]; omega
    have c0 : w3.cell? ⟨b, 0, none⟩ = some (.int .u8 1) := by rw [← k0.out]; exact (H3.out.cellV 0 rfl 0 K0.out).1
    clear k hlen hPi hdl hs
    go_wp2_with (refine wpList_val rfl (load_note cs NL.out rfl _ (b := b) (k := 0) R3.out rfl) ?_)
    refine (CL.out w3 H3.out.below).mono ?_
    clear CL R3 c36 c0
    rintro e w4 ⟨a2, k2, rfl, hg2, hb4⟩
    have H4 := Lib.hid (H3.out.later hb4)
    have c36 := (H4.out.cellV 0 rfl 36 C36.out).1
    have c0 : w4.cell? ⟨b, 0, none⟩ = some (.int .u8 1) := by rw [← k0.out]; exact (H4.out.cellV 0 rfl 0 K0.out).1
    have R4 : Hid (w4.rangeAt b 0 cs) := rng H4.out 0 rfl
    clear hg2 hb4 H3
    go_wp2_with (refine wpList_val rfl (load_note cs NL.out rfl _ (b := b) (k := 0) R4.out rfl) ?_)
    refine (KP1.out w4 H4.out.below hn).mono ?_
    clear KP1 R4
    rintro e w5 ⟨rfl, hb5⟩
    have H5 := Lib.hid (H4.out.later hb5)
    clear hb5 H4 c36 c0
    go_wp2
    go_ret
    exact ⟨rfl, H5.out.below⟩
  · have hs : L = 13 := by rw [hlen]; unfold sizeN; simp only [k, hdl]; rfl
    have k0 : Hid ((n.kind.toNat : Int) = 2) := by show _ = _; rw [k]; rfl
    have hP9 : P ≤ 4 := by omega
    have e1 : ((L : Int) == 13) = true := by rw [beq_iff_eq]; omega
    have e2 : ((P : Int) == 1) = true := by rw [beq_iff_eq]; omega
    have c0 : w3.cell? ⟨b, 0, none⟩ = some (.int .u8 2) := by rw [← k0.out]; exact (H3.out.cellV 0 rfl 0 K0.out).1
    clear k hlen hPi hdl hs
    go_wp2_with (refine wpList_val rfl (load_note cs NL.out rfl _ (b := b) (k := 0) R3.out rfl) ?_)
    refine (CL.out w3 H3.out.below).mono ?_
    clear CL R3 c36 c0
    rintro e w4 ⟨a2, k2, rfl, hg2, hb4⟩
    have H4 := Lib.hid (H3.out.later hb4)
    have c36 := (H4.out.cellV 0 rfl 36 C36.out).1
    have c0 : w4.cell? ⟨b, 0, none⟩ = some (.int .u8 2) := by rw [← k0.out]; exact (H4.out.cellV 0 rfl 0 K0.out).1
    have R4 : Hid (w4.rangeAt b 0 cs) := rng H4.out 0 rfl
    clear hg2 hb4 H3
    go_wp2_with (refine wpList_val rfl (load_note cs NL.out rfl _ (b := b) (k := 0) R4.out rfl) ?_)
    refine (KP1.out w4 H4.out.below hn).mono ?_
    clear KP1 R4
    rintro e w5 ⟨rfl, hb5⟩
    have H5 := Lib.hid (H4.out.later hb5)
    clear hb5 H4 c36 c0
    go_wp2
    go_ret
    exact ⟨rfl, H5.out.below⟩
  · have hs : L = 9 := by rw [hlen]; unfold sizeN; simp only [k, hdl]; rfl
    have k0 : Hid ((n.kind.toNat : Int) = 3) := by show _ = _; rw [k]; rfl
    have hP9 : P ≤ 4 := by omega
    have e1 : ((L : Int) == 9) = true := by rw [beq_iff_eq]; omega
    have e2 : ((P : Int) == 1) = true := by rw [beq_iff_eq]; omega
    have c0 : w3.cell? ⟨b, 0, none⟩ = some (.int .u8 3) := by rw [← k0.out]; exact (H3.out.cellV 0 rfl 0 K0.out).1
    clear k hlen hPi hdl hs
    go_wp2_with (refine wpList_val rfl (load_note cs NL.out rfl _ (b := b) (k := 0) R3.out rfl) ?_)
    refine (CL.out w3 H3.out.below).mono ?_
    clear CL R3 c36 c0
    rintro e w4 ⟨a2, k2, rfl, hg2, hb4⟩
    have H4 := Lib.hid (H3.out.later hb4)
    have c36 := (H4.out.cellV 0 rfl 36 C36.out).1
    have c0 : w4.cell? ⟨b, 0, none⟩ = some (.int .u8 3) := by rw [← k0.out]; exact (H4.out.cellV 0 rfl 0 K0.out).1
    have R4 : Hid (w4.rangeAt b 0 cs) := rng H4.out 0 rfl
    clear hg2 hb4 H3
    go_wp2_with (refine wpList_val rfl (load_note cs NL.out rfl _ (b := b) (k := 0) R4.out rfl) ?_)
    refine (KP1.out w4 H4.out.below hn).mono ?_
    clear KP1 R4
    rintro e w5 ⟨rfl, hb5⟩
    have H5 := Lib.hid (H4.out.later hb5)
    clear hb5 H4 c36 c0
    go_wp2
    go_ret
    exact ⟨rfl, H5.out.below⟩
  · have hs : L = 39 + len := by rw [hlen]; unfold sizeN; simp only [k, hdl]; rfl
    have k0 : Hid ((n.kind.toNat : Int) = 4) := by show _ = _; rw [k]; rfl
    have hP9 : P ≤ 4 := by omega
    have e1 : ((L : Int) == 39 + (len : Int)) = true := by rw [beq_iff_eq]; omega
    have e2 : ((P : Int) == (39 + (len : Int) + 125 - 1) / 125) = true := by rw [beq_iff_eq]; omega
    have c0 : w3.cell? ⟨b, 0, none⟩ = some (.int .u8 4) := by rw [← k0.out]; exact (H3.out.cellV 0 rfl 0 K0.out).1
    clear k hlen hPi hdl hs
    go_wp2_with (refine wpList_val rfl (load_note cs NL.out rfl _ (b := b) (k := 0) R3.out rfl) ?_)
    refine (CL.out w3 H3.out.below).mono ?_
    clear CL R3 c36 c0
    rintro e w4 ⟨a2, k2, rfl, hg2, hb4⟩
    have H4 := Lib.hid (H3.out.later hb4)
    have c36 := (H4.out.cellV 0 rfl 36 C36.out).1
    have c0 : w4.cell? ⟨b, 0, none⟩ = some (.int .u8 4) := by rw [← k0.out]; exact (H4.out.cellV 0 rfl 0 K0.out).1
    have R4 : Hid (w4.rangeAt b 0 cs) := rng H4.out 0 rfl
    clear hg2 hb4 H3
    go_wp2_with (refine wpList_val rfl (load_note cs NL.out rfl _ (b := b) (k := 0) R4.out rfl) ?_)
    refine (KP1.out w4 H4.out.below hn).mono ?_
    clear KP1 R4
    rintro e w5 ⟨rfl, hb5⟩
    have H5 := Lib.hid (H4.out.later hb5)
    clear hb5 H4 c36 c0
    go_wp2
    go_ret
    exact ⟨rfl, H5.out.below⟩

set_option maxRecDepth 10000 in
set_option maxHeartbeats 8000000 in
theorem walk_back (n : Nte) (f : Fits n) (ao : Option Addr) (len cap : Nat) {w : World} (hg : Given w ao len cap n.data) (K : Kept w) :
    Calls Try.prog 5 #[ntV n (.slice ao len cap)] w (RetYes w) := by
  obtain ⟨cs, hcs⟩ : ∃ cs, cs = ntC n (.slice ao len cap) := ⟨_, rfl⟩
  show Calls Try.prog _ #[.agg (ntC n (.slice ao len cap)).toArray] w _
  rw [← hcs]
  obtain ⟨rt, hrt⟩ : ∃ b, b = right n := ⟨_, rfl⟩
  obtain ⟨P, hP⟩ : ∃ P, P = pagesN n := ⟨_, rfl⟩
  obtain ⟨Y, hY⟩ : ∃ Y, Y = lay n := ⟨_, rfl⟩
  have NL : Hid (cs.length = 37) := by show _ = _; rw [hcs]; exact ntC_len n _ f.sum
  have KR1 : Hid (∀ wx, Below w.heap.size w wx → len ≤ 10000 → Calls Try.prog 12 #[.agg cs.toArray] wx fun e w' => e = .returned (.bool rt) ∧ Below wx.heap.size wx w') := by
    intro wx hwx hn
    rw [hcs, hrt]
    exact K.right n ao len cap f hwx (hg.later hwx) (by omega)
  have KL1 : Hid (∀ wx, Below w.heap.size w wx → len ≤ 10000 → Calls Try.prog 10 #[.agg cs.toArray] wx (LayDone Y wx)) := by
    intro wx hwx hn
    rw [hcs, hY]
    exact K.lay n ao len cap f hwx (hg.later hwx) (by omega)
  have KP1 : Hid (∀ wx, Below w.heap.size w wx → len ≤ 10000 → Calls Try.prog 14 #[.agg cs.toArray] wx fun e w' => e = .returned (.int .i64 (P : Int)) ∧ Below wx.heap.size wx w') := by
    intro wx hwx hn
    rw [hcs, hP]
    exact K.pages n ao len cap f hwx (hg.later hwx) (by omega)
  have KT1 : Hid (∀ wx a m c p, Below w.heap.size w wx → Given wx a m c p → m ≤ 1000 → Calls Try.prog 16 #[.slice a m c] wx (TakeNew (RecM.take p) wx)) := by
    intro wx a m c p hwx h hm
    exact K.take a m c p hwx h (by omega)
  obtain ⟨b, hb⟩ : ∃ b, b = w.heap.size := ⟨_, rfl⟩
  obtain ⟨w1, hw1⟩ : ∃ w1, w1 = w.alloc (.cells cs.toArray 30) := ⟨_, rfl⟩
  have H0 : Hid (Own.St w.heap.size w w1 [AVals b 30 cs]) := by rw [hb, hw1]; exact (Own.St.start w).boxV _ _
  have CS := Lib.hid (shown_any K H0.out.below)
  have C36 : Hid (cs[36]? = some (.slice ao len cap)) := by show _ = _; rw [hcs]; exact ntC_data n _ f.sum
  have HCS := Lib.hid hcs
  have HRT := Lib.hid hrt
  have HPP := Lib.hid hP
  have HY := Lib.hid hY
  have HG := Lib.hid hg
  have HF := Lib.hid f
  have HB := Lib.hid hb
  have HW1 := Lib.hid hw1
  clear hcs hrt hP hY hg f hb hw1
  obtain ⟨z, hz⟩ : ∃ z, z = ntC zeroN nilV := ⟨_, rfl⟩
  have HZ2 : Hid ((Try.prog.info? 30).bind (·.zero) = some (.agg z.toArray)) := by rw [hz]; exact zero_note
  have HZ0 : Hid (Try.prog.built 30 [] = some z.toArray) := by rw [hz]; exact built_note0
  have HZL : Hid (z.length = 37) := by show z.length = 37; rw [hz]; rfl
  have HZ := Lib.hid hz
  clear hz
  go_enter Try.func5, Try.ntmps5
  go_wp2_with (fail)
  rw [← HW1.out, ← HB.out]
  refine CS.out.mono ?_
  clear CS
  rintro e w2 ⟨rfl, hb2⟩
  have H2 := Lib.hid (H0.out.later hb2)
  have c36 := (H2.out.cellV 0 rfl 36 C36.out).1
  clear hb2 H0 HW1
  by_cases hlong : (10000 : Int) < (len : Int)
  · clear HB
    go_wp2
    go_ret
    exact ⟨rfl, H2.out.below⟩
  have hn : len ≤ 10000 := by omega
  have hdec : decide ((10000 : Int) < (len : Int)) = false := decide_eq_false hlong
  have R2 : Hid (w2.rangeAt b 0 cs) := rng H2.out 0 rfl
  have CG : Hid (∀ wx, Below w2.heap.size w2 wx → Given wx ao len cap n.data) := fun wx h => HG.out.later (H2.out.below.trans (h.mono H2.out.below.size))
  cases rt
  · have HYY : Hid (Y = ([], 1)) := HY.out.trans (lay_wrong HRT.out.symm)
    have HP0 : Hid (P = 0) := by show _ = _; rw [HPP.out]; unfold pagesN; rw [← HRT.out]; rfl
    have CL : Hid (∀ wx, Below w.heap.size w wx → Calls Try.prog 10 #[.agg cs.toArray] wx fun e w' => ∃ ao cap, e = .returned (.tuple #[.slice ao 0 cap, errN 1]) ∧ Given w' ao 0 cap [] ∧ Below wx.heap.size wx w') := by
      intro wx hwx
      have h := KL1.out wx hwx hn
      rw [HYY.out] at h
      exact h
    clear KL1
    go_wp2_with (refine wpList_val rfl (load_note cs NL.out rfl _ (b := b) (k := 0) R2.out rfl) ?_)
    refine (CL.out w2 H2.out.below).mono ?_
    clear CL R2 c36
    rintro e w3 ⟨a2, k2, rfl, hg2, hb3⟩
    have H3 := Lib.hid (H2.out.later hb3)
    have CT := Lib.hid (KT1.out w3 a2 0 k2 [] H3.out.below hg2 (by decide))
    rw [take_none not_nil] at CT
    clear hg2 hb3 H2 KT1
    go_wp2_with (fail)
    refine CT.out.mono ?_
    clear CT
    rintro e w4 ⟨a4, k4, he, hg4, hv4, hb4⟩
    have H4 := Lib.hid (H3.out.later hb4)
    clear hg4 hv4 hb4 H3
    obtain ⟨c9, hc9⟩ : ∃ x, x = ntC zeroN (.slice a4 0 k4) := ⟨_, rfl⟩
    have HC9 := Lib.hid hc9
    have he' : e = .returned (.tuple #[.agg c9.toArray, errN 100]) := by rw [he, hc9]; try rfl
    clear he
    subst he'
    have NL9 : Hid (c9.length = 37) := by show _ = _; rw [hc9]; exact ntC_len _ _ zsum_len
    obtain ⟨b5, hb5⟩ : ∃ b, b = w4.heap.size := ⟨_, rfl⟩
    obtain ⟨W4, hW4⟩ : ∃ W, W = w4.alloc (.cells z.toArray 30) := ⟨_, rfl⟩
    have h4 := (H4.out.boxV 30 z)
    rw [← hb5, ← hW4] at h4
    have TH : Hid (W4.there b5 0 c9.toArray.size) := h4.thereV 0 rfl (by rw [List.size_toArray, NL9.out, HZL.out]; exact Nat.le_refl _)
    have hset := Own.St.setAll 0 c9 0 W4 _ z h4 rfl (by rw [NL9.out, HZL.out])
    simp only [List.set_cons_zero, List.take_zero, List.nil_append] at hset
    obtain ⟨W5, hW5⟩ : ∃ W, W = W4.setCells b5 0 c9.toArray.toList := ⟨_, rfl⟩
    have H9 : Hid (Own.St w.heap.size w W5 [AVals b5 30 c9, AVals b 30 cs]) := by rw [hW5, List.toList_toArray]; exact hset
    have IO : Hid ((Try.prog.info? 30).map (·.size) = some c9.toArray.size) := info_noteA c9 NL9.out
    have OO : Hid (c9.toArray.all (·.oneCell') = true) := oneN rfl c9 hc9
    have HB5 := Lib.hid hb5
    have HW4 := Lib.hid hW4
    have HW5 := Lib.hid hW5
    clear h4 hset hb5 hW4 hW5 hc9
    have R9 : Hid (W5.rangeAt b 0 cs) := rng H9.out 1 rfl
    go_wp2_with (first
      | (refine Own.wpList_allocZ rfl 30 rfl z.toArray HZ2.out ?_; rw [← HB5.out, ← HW4.out])
      | (refine wpList_store_mid rfl 30 (.tmp 6) (.tmp 22) rfl b5 0 c9.toArray rfl rfl TH.out IO.out OO.out ?_; rw [← HW5.out])
      | (refine wpList_val rfl (load_note cs NL.out rfl _ (b := b) (k := 0) R9.out rfl) ?_))
    refine (KR1.out W5 H9.out.below hn).mono ?_
    clear KR1 R9 TH IO OO HB5 HW4 HW5
    rintro e w6 ⟨rfl, hb6⟩
    have H6 := Lib.hid (H9.out.later hb6)
    have R6 : Hid (w6.rangeAt b 0 cs) := rng H6.out 1 rfl
    clear hb6 H9
    go_wp2_with (refine wpList_val rfl (load_note cs NL.out rfl _ (b := b) (k := 0) R6.out rfl) ?_)
    have CP := Lib.hid (KP1.out w6 H6.out.below hn)
    rw [HP0.out] at CP
    refine CP.out.mono ?_
    clear KP1 CP R6
    rintro e w7 ⟨rfl, hb7⟩
    have H7 := Lib.hid (H6.out.later hb7)
    clear hb7 H6
    go_wp2
    go_ret
    exact ⟨rfl, H7.out.below⟩
  have HYY : Hid (Y = (laid n, 0)) := HY.out.trans (lay_right HRT.out.symm)
  obtain ⟨Lb, hLb⟩ : ∃ l, l = laid n := ⟨_, rfl⟩
  obtain ⟨L, hL⟩ : ∃ L, L = Lb.length := ⟨_, rfl⟩
  have hsm : L ≤ 351 ∧ 0 < L := by rw [hL, hLb]; exact laid_small HF.out HRT.out.symm
  have hPi : 0 < P := by rw [HPP.out]; unfold pagesN; rw [← HRT.out, if_pos rfl, ← hLb, ← hL]; omega
  have CL : Hid (∀ wx, Below w.heap.size w wx → Calls Try.prog 10 #[.agg cs.toArray] wx fun e w' => ∃ ao cap, e = .returned (.tuple #[.slice ao L cap, errN 0]) ∧ Given w' ao L cap Lb ∧ Below wx.heap.size wx w') := by
    intro wx hwx
    have h := KL1.out wx hwx hn
    rw [HYY.out, ← hLb] at h
    unfold LayDone at h
    simp only [← hL] at h
    exact h
  have HTK : Hid (RecM.take Lb = (n, 0)) := by show _ = _; rw [hLb]; exact take_laid HF.out HRT.out.symm
  have HDL := Lib.hid HG.out.size
  clear KL1 hL hLb
  go_wp2_with (refine wpList_val rfl (load_note cs NL.out rfl _ (b := b) (k := 0) R2.out rfl) ?_)
  refine (CL.out w2 H2.out.below).mono ?_
  clear CL R2 c36
  rintro e w3 ⟨a2, k2, rfl, hg2, hb3⟩
  have H3 := Lib.hid (H2.out.later hb3)
  have CT := KT1.out w3 a2 L k2 Lb H3.out.below hg2 (by omega)
  rw [HTK.out] at CT
  unfold TakeNew at CT
  simp only [HDL.out] at CT
  have CT := Lib.hid CT
  clear hg2 hb3 H2 KT1
  go_wp2_with (fail)
  refine CT.out.mono ?_
  clear CT
  rintro e w4 ⟨a4, k4, he, hg4, hv4, hb4⟩
  have H4 := Lib.hid (H3.out.later hb4)
  have G4 := Lib.hid hg4
  have GN := Lib.hid (HG.out.later H4.out.below)
  clear hg4 hv4 hb4 H3
  obtain ⟨c9, hc9⟩ : ∃ x, x = ntC n (.slice a4 len k4) := ⟨_, rfl⟩
  have HC9 := Lib.hid hc9
  have he' : e = .returned (.tuple #[.agg c9.toArray, errN 0]) := by rw [he, hc9]; try rfl
  clear he
  subst he'
  have NL9 : Hid (c9.length = 37) := by show _ = _; rw [hc9]; exact ntC_len _ _ HF.out.sum
  obtain ⟨b5, hb5⟩ : ∃ b, b = w4.heap.size := ⟨_, rfl⟩
  obtain ⟨W4, hW4⟩ : ∃ W, W = w4.alloc (.cells z.toArray 30) := ⟨_, rfl⟩
  have h4 := (H4.out.boxV 30 z)
  rw [← hb5, ← hW4] at h4
  have TH : Hid (W4.there b5 0 c9.toArray.size) := h4.thereV 0 rfl (by rw [List.size_toArray, NL9.out, HZL.out]; exact Nat.le_refl _)
  have hset := Own.St.setAll 0 c9 0 W4 _ z h4 rfl (by rw [NL9.out, HZL.out])
  simp only [List.set_cons_zero, List.take_zero, List.nil_append] at hset
  obtain ⟨W5, hW5⟩ : ∃ W, W = W4.setCells b5 0 c9.toArray.toList := ⟨_, rfl⟩
  have H9 : Hid (Own.St w.heap.size w W5 [AVals b5 30 c9, AVals b 30 cs]) := by rw [hW5, List.toList_toArray]; exact hset
  have IO : Hid ((Try.prog.info? 30).map (·.size) = some c9.toArray.size) := info_noteA c9 NL9.out
  have OO : Hid (c9.toArray.all (·.oneCell') = true) := oneN rfl c9 hc9
  have HB5 := Lib.hid hb5
  have HW4 := Lib.hid hW4
  have HW5 := Lib.hid hW5
  clear h4 hset hb5 hW4 hW5 hc9
  have R9 : Hid (W5.rangeAt b 0 cs) := rng H9.out 1 rfl
  have B49 : Hid (Below w4.heap.size w4 W5) := by
    have h1 := ((Own.St.start w4).boxV 30 z)
    rw [← HB5.out, ← HW4.out] at h1
    have h2 := Own.St.setAll 0 c9 0 W4 _ z h1 rfl (by rw [NL9.out, HZL.out])
    show Below _ _ _
    rw [HW5.out, List.toList_toArray, ← HB5.out]
    exact h2.below
  have GN9 := Lib.hid (GN.out.later B49.out)
  have G49 := Lib.hid (G4.out.later B49.out)
  clear GN G4 B49
  go_wp2_with (first
  | (refine Own.wpList_allocZ rfl 30 rfl z.toArray HZ2.out ?_; rw [← HB5.out, ← HW4.out])
  | (refine wpList_store_mid rfl 30 (.tmp 6) (.tmp 22) rfl b5 0 c9.toArray rfl rfl TH.out IO.out OO.out ?_; rw [← HW5.out])
    | (refine wpList_val rfl (load_note cs NL.out rfl _ (b := b) (k := 0) R9.out rfl) ?_))
  refine (KR1.out W5 H9.out.below hn).mono ?_
  clear KR1 R9 TH IO OO HB5 HW4 HW5
  rintro e w6 ⟨rfl, hb6⟩
  have H6 := Lib.hid (H9.out.later hb6)
  have R6 : Hid (w6.rangeAt b 0 cs) := rng H6.out 1 rfl
  have R6b : Hid (w6.rangeAt b5 0 c9) := rng H6.out 0 rfl
  have CSM := same_self n HF.out.sum ao a4 len cap k4 w6 (GN9.out.later hb6).view (G49.out.later hb6).view HDL.out
  unfold ntV at CSM
  rw [← HCS.out, ← HC9.out] at CSM
  have CSM := Lib.hid CSM
  clear hb6 H9 GN9 G49
  go_wp2_with (first
    | (refine wpList_val rfl (load_note cs NL.out rfl _ (b := b) (k := 0) R6.out rfl) ?_)
    | (refine wpList_val rfl (load_note c9 NL9.out rfl _ (b := b5) (k := 0) R6b.out rfl) ?_))
  refine CSM.out.mono ?_
  clear CSM R6 R6b
  rintro e w7 ⟨rfl, hb7⟩
  have H7 := Lib.hid (H6.out.later hb7)
  have R7 : Hid (w7.rangeAt b 0 cs) := rng H7.out 1 rfl
  have hL4 : decide ((L : Int) ≤ 400) = true := decide_eq_true (by omega)
  clear hb7 H6
  go_wp2_with (refine wpList_val rfl (load_note cs NL.out rfl _ (b := b) (k := 0) R7.out rfl) ?_)
  refine (KP1.out w7 H7.out.below hn).mono ?_
  clear KP1 R7
  rintro e w8 ⟨rfl, hb8⟩
  have H8 := Lib.hid (H7.out.later hb8)
  have hPd : decide ((0 : Int) < (P : Int)) = true := decide_eq_true (by omega)
  clear hb8 H7
  go_wp2
  go_ret
  exact ⟨rfl, H8.out.below⟩

set_option maxRecDepth 10000 in
set_option maxHeartbeats 8000000 in
theorem walk_once (ao : Option Addr) (n cap : Nat) (p : RecM.Bs) {w : World} (hg : Given w ao n cap p) (K : Kept w) :
    Calls Try.prog 6 #[.slice ao n cap] w (RetYes w) := by
  have KT1 : Hid (∀ wx, Below w.heap.size w wx → n ≤ 10000 → Calls Try.prog 16 #[.slice ao n cap] wx (TakeNew (RecM.take p) wx)) := by
    intro wx hwx hn
    exact K.take ao n cap p hwx (hg.later hwx) (by omega)
  have KL1 : Hid (∀ wx m a l c, Fits m → Below w.heap.size w wx → Given wx a l c m.data → l ≤ 1000 → Calls Try.prog 10 #[ntV m (.slice a l c)] wx (LayDone (lay m) wx)) := by
    intro wx m a l c fm hwx h hl
    exact K.lay m a l c fm hwx h (by omega)
  have CS := Lib.hid (shown_any K (Below.refl _ w))
  have HG := Lib.hid hg
  clear hg
  obtain ⟨z, hz⟩ : ∃ z, z = ntC zeroN nilV := ⟨_, rfl⟩
  have HZ2 : Hid ((Try.prog.info? 30).bind (·.zero) = some (.agg z.toArray)) := by rw [hz]; exact zero_note
  have HZ0 : Hid (Try.prog.built 30 [] = some z.toArray) := by rw [hz]; exact built_note0
  have HZL : Hid (z.length = 37) := by show z.length = 37; rw [hz]; rfl
  have HZ := Lib.hid hz
  clear hz
  go_enter Try.func6, Try.ntmps6
  go_wp2_with (fail)
  refine CS.out.mono ?_
  clear CS
  rintro e w2 ⟨rfl, hb2⟩
  have H2 := Lib.hid ((Own.St.start w).later hb2)
  have HG2 := Lib.hid (HG.out.later hb2)
  clear hb2
  by_cases hlong : (10000 : Int) < (n : Int)
  · go_wp2
    go_ret
    exact ⟨rfl, H2.out.below⟩
  have hn : n ≤ 10000 := by omega
  by_cases hi : ¬ IsNote p
  · have HTK : Hid (RecM.take p = (zeroN, 100)) := take_none hi
    have CT := KT1.out w2 H2.out.below hn
    rw [HTK.out] at CT
    have CT := Lib.hid CT
    clear hi KT1
    go_wp2_with (fail)
    refine CT.out.mono ?_
    clear CT
    rintro e w4 ⟨a4, k4, he, hg4, hv4, hb4⟩
    have H4 := Lib.hid (H2.out.later hb4)
    have G4 := Lib.hid hg4
    clear hg4 hv4 hb4 H2
    obtain ⟨c9, hc9⟩ : ∃ x, x = ntC zeroN (.slice a4 0 k4) := ⟨_, rfl⟩
    have HC9 := Lib.hid hc9
    have he' : e = .returned (.tuple #[.agg c9.toArray, errN 100]) := by rw [he, hc9]; try rfl
    clear he
    subst he'
    have NL9 : Hid (c9.length = 37) := by show _ = _; rw [hc9]; exact ntC_len _ _ zsum_len
    obtain ⟨b5, hb5⟩ : ∃ b, b = w4.heap.size := ⟨_, rfl⟩
    obtain ⟨W4, hW4⟩ : ∃ W, W = w4.alloc (.cells z.toArray 30) := ⟨_, rfl⟩
    have h4 := (H4.out.boxV 30 z)
    rw [← hb5, ← hW4] at h4
    have TH : Hid (W4.there b5 0 c9.toArray.size) := h4.thereV 0 rfl (by rw [List.size_toArray, NL9.out, HZL.out]; exact Nat.le_refl _)
    have hset := Own.St.setAll 0 c9 0 W4 _ z h4 rfl (by rw [NL9.out, HZL.out])
    simp only [List.set_cons_zero, List.take_zero, List.nil_append] at hset
    obtain ⟨W5, hW5⟩ : ∃ W, W = W4.setCells b5 0 c9.toArray.toList := ⟨_, rfl⟩
    have H9 : Hid (Own.St w.heap.size w W5 [AVals b5 30 c9]) := by rw [hW5, List.toList_toArray]; exact hset
    have IO : Hid ((Try.prog.info? 30).map (·.size) = some c9.toArray.size) := info_noteA c9 NL9.out
    have OO : Hid (c9.toArray.all (·.oneCell') = true) := oneN rfl c9 hc9
    have HB5 := Lib.hid hb5
    have HW4 := Lib.hid hW4
    have HW5 := Lib.hid hW5
    clear h4 hset hb5 hW4 hW5 hc9
    have B49 : Hid (Below w4.heap.size w4 W5) := by
      have h1 := ((Own.St.start w4).boxV 30 z)
      rw [← HB5.out, ← HW4.out] at h1
      have h2 := Own.St.setAll 0 c9 0 W4 _ z h1 rfl (by rw [NL9.out, HZL.out])
      show Below _ _ _
      rw [HW5.out, List.toList_toArray, ← HB5.out]
      exact h2.below
    have R9 : Hid (W5.rangeAt b5 0 c9) := rng H9.out 0 rfl
    have G9 := Lib.hid (G4.out.later B49.out)
    have CL := KL1.out W5 zeroN a4 0 k4 zero_fits H9.out.below G9.out (by decide)
    rw [show lay zeroN = ([], 1) from lay_wrong rfl] at CL
    unfold ntV at CL
    rw [← HC9.out] at CL
    have CL := Lib.hid CL
    clear G4 B49 KL1
    go_wp2_with (first
      | (refine Own.wpList_allocZ rfl 30 rfl z.toArray HZ2.out ?_; rw [← HB5.out, ← HW4.out])
      | (refine wpList_store_mid rfl 30 (.tmp 4) (.tmp 16) rfl b5 0 c9.toArray rfl rfl TH.out IO.out OO.out ?_; rw [← HW5.out])
      | (refine wpList_val rfl (load_note c9 NL9.out rfl _ (b := b5) (k := 0) R9.out rfl) ?_))
    refine CL.out.mono ?_
    clear CL R9 TH IO OO HB5 HW4 HW5
    rintro e w6 ⟨a6, k6, rfl, hg6, hb6⟩
    have H6 := Lib.hid (H9.out.later hb6)
    have R6 : Hid (w6.rangeAt b5 0 c9) := rng H6.out 0 rfl
    have CSM := same_self zeroN zsum_len a4 none 0 k4 0 w6 (D2 := fun _ => True) (G9.out.later hb6).view (.inl rfl) rfl
    unfold ntV at CSM
    rw [← HC9.out, ← HZ.out] at CSM
    have CSM := Lib.hid CSM
    clear hg6 hb6 H9 G9
    go_wp2_with (first
      | (refine wpList_val rfl (load_note c9 NL9.out rfl _ (b := b5) (k := 0) R6.out rfl) ?_)
      | (refine wpList_val rfl (build_e (t := 30) (parts := #[]) rfl z.toArray _ _ (by simp only [List.map_toArray, List.map_nil, List.toList_toArray]; exact HZ0.out)) ?_))
    refine CSM.out.mono ?_
    clear CSM R6
    rintro e w7 ⟨rfl, hb7⟩
    have H7 := Lib.hid (H6.out.later hb7)
    clear hb7 H6
    go_wp2
    go_ret
    exact ⟨rfl, H7.out.below⟩
  have hi2 : IsNote p := Classical.not_not.1 hi
  obtain ⟨m, fm, hm, hp⟩ := hi2
  have HTK : RecM.take p = (m, 0) := by rw [← hp]; exact take_laid fm hm
  obtain ⟨l, hl⟩ : ∃ l, l = m.data.length := ⟨_, rfl⟩
  have hl3 : l ≤ 300 := by rw [hl]; exact right_data hm
  have CT := KT1.out w2 H2.out.below hn
  rw [HTK] at CT
  unfold TakeNew at CT
  simp only [← hl] at CT
  have CT := Lib.hid CT
  clear hi KT1 HTK
  go_wp2_with (fail)
  refine CT.out.mono ?_
  clear CT
  rintro e w4 ⟨a4, k4, he, hg4, hv4, hb4⟩
  have H4 := Lib.hid (H2.out.later hb4)
  have G4 := Lib.hid hg4
  clear hg4 hv4 hb4 H2
  obtain ⟨c9, hc9⟩ : ∃ x, x = ntC m (.slice a4 l k4) := ⟨_, rfl⟩
  have HC9 := Lib.hid hc9
  have he' : e = .returned (.tuple #[.agg c9.toArray, errN 0]) := by rw [he, hc9]; try rfl
  clear he
  subst he'
  have NL9 : Hid (c9.length = 37) := by show _ = _; rw [hc9]; exact ntC_len _ _ fm.sum
  obtain ⟨b5, hb5⟩ : ∃ b, b = w4.heap.size := ⟨_, rfl⟩
  obtain ⟨W4, hW4⟩ : ∃ W, W = w4.alloc (.cells z.toArray 30) := ⟨_, rfl⟩
  have h4 := (H4.out.boxV 30 z)
  rw [← hb5, ← hW4] at h4
  have TH : Hid (W4.there b5 0 c9.toArray.size) := h4.thereV 0 rfl (by rw [List.size_toArray, NL9.out, HZL.out]; exact Nat.le_refl _)
  have hset := Own.St.setAll 0 c9 0 W4 _ z h4 rfl (by rw [NL9.out, HZL.out])
  simp only [List.set_cons_zero, List.take_zero, List.nil_append] at hset
  obtain ⟨W5, hW5⟩ : ∃ W, W = W4.setCells b5 0 c9.toArray.toList := ⟨_, rfl⟩
  have H9 : Hid (Own.St w.heap.size w W5 [AVals b5 30 c9]) := by rw [hW5, List.toList_toArray]; exact hset
  have IO : Hid ((Try.prog.info? 30).map (·.size) = some c9.toArray.size) := info_noteA c9 NL9.out
  have OO : Hid (c9.toArray.all (·.oneCell') = true) := oneN rfl c9 hc9
  have HB5 := Lib.hid hb5
  have HW4 := Lib.hid hW4
  have HW5 := Lib.hid hW5
  clear h4 hset hb5 hW4 hW5 hc9
  have B49 : Hid (Below w4.heap.size w4 W5) := by
    have h1 := ((Own.St.start w4).boxV 30 z)
    rw [← HB5.out, ← HW4.out] at h1
    have h2 := Own.St.setAll 0 c9 0 W4 _ z h1 rfl (by rw [NL9.out, HZL.out])
    show Below _ _ _
    rw [HW5.out, List.toList_toArray, ← HB5.out]
    exact h2.below
  have R9 : Hid (W5.rangeAt b5 0 c9) := rng H9.out 0 rfl
  have G9 := Lib.hid (G4.out.later B49.out)
  have HG9 := Lib.hid (HG.out.later H9.out.below)
  have CL := KL1.out W5 m a4 l k4 fm H9.out.below G9.out (by omega)
  rw [lay_right hm, hp] at CL
  unfold ntV at CL
  rw [← HC9.out] at CL
  unfold LayDone at CL
  simp only [HG.out.size] at CL
  have CL := Lib.hid CL
  clear G4 B49 KL1 G9 hp hl hm fm
  go_wp2_with (first
  | (refine Own.wpList_allocZ rfl 30 rfl z.toArray HZ2.out ?_; rw [← HB5.out, ← HW4.out])
  | (refine wpList_store_mid rfl 30 (.tmp 4) (.tmp 16) rfl b5 0 c9.toArray rfl rfl TH.out IO.out OO.out ?_; rw [← HW5.out])
    | (refine wpList_val rfl (load_note c9 NL9.out rfl _ (b := b5) (k := 0) R9.out rfl) ?_))
  refine CL.out.mono ?_
  clear CL R9 TH IO OO HB5 HW4 HW5
  rintro e w6 ⟨a6, k6, rfl, hg6, hb6⟩
  have H6 := Lib.hid (H9.out.later hb6)
  have G6 := Lib.hid hg6
  have GP := Lib.hid (HG9.out.later hb6)
  have HSM : Hid (decide (p = p) = true) := decide_eq_true rfl
  clear hg6 hb6 H9 HG9
  go_wp2_with (first
    | (refine Byt.wpList_str8 rfl (.tmp 32) rfl a6 n k6 rfl _ _ G6.out.view G6.out.size ?_)
    | (refine Byt.wpList_str8 rfl (.tmp 34) rfl ao n cap rfl _ _ GP.out.view GP.out.size ?_)
    | (refine Byt.wpList_val rfl (eql_str rfl _ _ true HSM.out _ _ rfl rfl) ?_))
  go_ret
  exact ⟨rfl, H6.out.below⟩

set_option maxRecDepth 10000 in
set_option maxHeartbeats 8000000 in
theorem walk_takes (ao : Option Addr) (n cap : Nat) (p : RecM.Bs) {w : World} (hg : Given w ao n cap p) (K : Kept w) :
    Calls Try.prog 4 #[.slice ao n cap] w (RetYes w) := by
  obtain ⟨Y, hY⟩ : ∃ Y, Y = RecM.take p := ⟨_, rfl⟩
  have hYs := take_sum p
  rw [← hY] at hYs
  have KT1 : Hid (∀ wx a c, Below w.heap.size w wx → n ≤ 10000 → Given wx a n c p → Calls Try.prog 16 #[.slice a n c] wx (TakeNew Y wx)) := by
    intro wx a c hwx hn h
    rw [hY]
    exact K.take a n c p hwx h (by omega)
  have KT2 : Hid (∀ wx Ps, n ≤ 10000 → Own.St w.heap.size w wx Ps → Calls Try.prog 17 #[.slice ao n cap] wx fun e w' => ∃ a c, e = .returned (.tuple #[ntV Y.1 (.slice a Y.1.data.length c), errN Y.2]) ∧ View w' (fun k => k < w.heap.size) a Y.1.data ∧ Own.St w.heap.size w w' Ps) := by
    intro wx Ps hn h
    rw [hY]
    exact refTake_st h ao n cap p (View.below hg.view h.below) hg.size hg.room.1 hg.room.2 (fun e => hg.nil e) (by omega)
  have CS := Lib.hid (shown_any K (Below.refl _ w))
  have HG := Lib.hid hg
  have HYS := Lib.hid hYs.1
  have hYd := hYs.2
  have HN := Lib.hid hg.size
  have HNO := Lib.hid (given_nil hg)
  clear hg hY hYs
  obtain ⟨z, hz⟩ : ∃ z, z = ntC zeroN nilV := ⟨_, rfl⟩
  have HZ2 : Hid ((Try.prog.info? 30).bind (·.zero) = some (.agg z.toArray)) := by rw [hz]; exact zero_note
  have HZ0 : Hid (Try.prog.built 30 [] = some z.toArray) := by rw [hz]; exact built_note0
  have HZL : Hid (z.length = 37) := by show z.length = 37; rw [hz]; rfl
  have HZ := Lib.hid hz
  clear hz
  go_enter Try.func4, Try.ntmps4
  go_wp2_with (fail)
  refine CS.out.mono ?_
  clear CS
  rintro e w2 ⟨rfl, hb2⟩
  have H2 := Lib.hid ((Own.St.start w).later hb2)
  have HG2 := Lib.hid (HG.out.later hb2)
  clear hb2
  by_cases hlong : (10000 : Int) < (n : Int)
  · go_wp2
    go_ret
    exact ⟨rfl, H2.out.below⟩
  have hn : n ≤ 10000 := by omega
  have HE := Lib.hid (ab_empty H2.out)
  have HC := Lib.hid (vcells (HG.out.later HE.out.below).view)
  clear HG2
  go_wp2_with (at_builtin; refine Byt.wpList_ab_append rfl (.tmp 15) (.tmp 16) rfl HE.out 0 rfl rfl ao n cap p rfl HNO.out HN.out HC.out (by omega) ?_; intro a4 c4 w4 h4; simp only [List.set_cons_zero, Nat.zero_add, List.nil_append] at h4 ⊢; have H4 := Lib.hid h4; have D1 := Lib.hid (KT1.out w4 a4 c4 h4.below hn (given_own h4 0 rfl)); clear h4)
  refine D1.out.mono ?_
  clear D1 KT1 HE HC
  rintro e w5 ⟨a5, k5, he, hg5, hv5, hb5⟩
  obtain ⟨dl, hdl⟩ : ∃ d, d = Y.1.data.length := ⟨_, rfl⟩
  rw [← hdl] at he hYd
  have HDL := Lib.hid hdl
  have H5 := Lib.hid (H4.out.adoptView hb5 hv5)
  clear hg5 hv5 hb5 H4 hdl
  obtain ⟨c9, hc9⟩ : ∃ x, x = ntC Y.1 (.slice a5 dl k5) := ⟨_, rfl⟩
  have HC9 := Lib.hid hc9
  have he' : e = .returned (.tuple #[.agg c9.toArray, errN Y.2]) := by rw [he, hc9]; try rfl
  clear he
  subst he'
  have NL9 : Hid (c9.length = 37) := by show _ = _; rw [hc9]; exact ntC_len _ _ HYS.out
  obtain ⟨b5, hb5⟩ : ∃ b, b = w5.heap.size := ⟨_, rfl⟩
  obtain ⟨W4, hW4⟩ : ∃ W, W = w5.alloc (.cells z.toArray 30) := ⟨_, rfl⟩
  have h4 := (H5.out.boxV 30 z)
  rw [← hb5, ← hW4] at h4
  have TH : Hid (W4.there b5 0 c9.toArray.size) := h4.thereV 0 rfl (by rw [List.size_toArray, NL9.out, HZL.out]; exact Nat.le_refl _)
  have hset := Own.St.setAll 0 c9 0 W4 _ z h4 rfl (by rw [NL9.out, HZL.out])
  simp only [List.set_cons_zero, List.take_zero, List.nil_append] at hset
  obtain ⟨W5, hW5⟩ : ∃ W, W = W4.setCells b5 0 c9.toArray.toList := ⟨_, rfl⟩
  have H9 : Hid (Own.St w.heap.size w W5 [AVals b5 30 c9, AView a5 Y.1.data, AB a4 n c4 p]) := by rw [hW5, List.toList_toArray]; exact hset
  have IO : Hid ((Try.prog.info? 30).map (·.size) = some c9.toArray.size) := info_noteA c9 NL9.out
  have OO : Hid (c9.toArray.all (·.oneCell') = true) := oneN rfl c9 hc9
  have HB5 := Lib.hid hb5
  have HW4 := Lib.hid hW4
  have HW5 := Lib.hid hW5
  clear h4 hset hb5 hW4 hW5 hc9
  go_wp2_with (first
  | (refine Own.wpList_allocZ rfl 30 rfl z.toArray HZ2.out ?_; rw [← HB5.out, ← HW4.out])
  | (refine wpList_store_mid rfl 30 (.tmp 5) (.tmp 21) rfl b5 0 c9.toArray rfl rfl TH.out IO.out OO.out ?_; rw [← HW5.out]))
  refine (KT2.out W5 _ hn H9.out).mono ?_
  clear TH IO OO HB5 HW4 HW5 H5
  rintro e w7 ⟨a7, k7, he, hv7, h7⟩
  rw [← HDL.out] at he
  have H7 := Lib.hid h7
  have HV7 := Lib.hid hv7
  clear KT2 H9 h7 hv7
  obtain ⟨c9b, hc9⟩ : ∃ x, x = ntC Y.1 (.slice a7 dl k7) := ⟨_, rfl⟩
  have HC9b := Lib.hid hc9
  have he' : e = .returned (.tuple #[.agg c9b.toArray, errN Y.2]) := by rw [he, hc9]; try rfl
  clear he
  subst he'
  have NL9b : Hid (c9b.length = 37) := by show _ = _; rw [hc9]; exact ntC_len _ _ HYS.out
  obtain ⟨b5b, hb5⟩ : ∃ b, b = w7.heap.size := ⟨_, rfl⟩
  obtain ⟨W4b, hW4⟩ : ∃ W, W = w7.alloc (.cells z.toArray 30) := ⟨_, rfl⟩
  have h4 := (H7.out.boxV 30 z)
  rw [← hb5, ← hW4] at h4
  have THb : Hid (W4b.there b5b 0 c9b.toArray.size) := h4.thereV 0 rfl (by rw [List.size_toArray, NL9b.out, HZL.out]; exact Nat.le_refl _)
  have hset := Own.St.setAll 0 c9b 0 W4b _ z h4 rfl (by rw [NL9b.out, HZL.out])
  simp only [List.set_cons_zero, List.take_zero, List.nil_append] at hset
  obtain ⟨W5b, hW5⟩ : ∃ W, W = W4b.setCells b5b 0 c9b.toArray.toList := ⟨_, rfl⟩
  have H9b : Hid (Own.St w.heap.size w W5b [AVals b5b 30 c9b, AVals b5 30 c9, AView a5 Y.1.data, AB a4 n c4 p]) := by rw [hW5, List.toList_toArray]; exact hset
  have IOb : Hid ((Try.prog.info? 30).map (·.size) = some c9b.toArray.size) := info_noteA c9b NL9b.out
  have OOb : Hid (c9b.toArray.all (·.oneCell') = true) := oneN rfl c9b hc9
  have HB5b := Lib.hid hb5
  have HW4b := Lib.hid hW4
  have HW5b := Lib.hid hW5
  clear h4 hset hb5 hW4 hW5 hc9
  have VB : Hid (∀ wx, Below w.heap.size w wx → View wx (fun k => k < w.heap.size) a7 Y.1.data) := fun wx h => View.same HV7.out (fun k hk => (h.block k hk).trans (H7.out.below.block k hk).symm)
  go_wp2_with (first
  | (refine Own.wpList_allocZ rfl 30 rfl z.toArray HZ2.out ?_; rw [← HB5b.out, ← HW4b.out])
  | (refine wpList_store_mid rfl 30 (.tmp 7) (.tmp 26) rfl b5b 0 c9b.toArray rfl rfl THb.out IOb.out OOb.out ?_; rw [← HW5b.out]))
  clear THb IOb OOb HB5b HW4b HW5b H7 HV7
  go_loopw [30] (fun v wr => ∃ (i : Nat) (q : List UInt8), i ≤ n ∧ v = .int .i64 (i : Int) ∧ Own.St w.heap.size w wr [AVals b5b 30 c9b, AVals b5 30 c9, AView a5 Y.1.data, AB a4 n c4 q]) (fun v _ => n - (intOf v).toNat)
  case atStart => exact ⟨0, p, Nat.zero_le _, rfl, H9b.out⟩
  case round =>
    obtain ⟨i, q, hin, rfl, h⟩ := hrel
    have H := Lib.hid h
    clear h
    by_cases hi : (i : Int) < (n : Int)
    · have hin2 : i < n := by omega
      obtain ⟨g, hga, cb, fb, hput⟩ := ab_byte H.out 3 rfl i hin2
      subst hga
      obtain ⟨c0, hc0⟩ : ∃ c, c = q.getD i 0 := ⟨_, rfl⟩
      rw [← hc0] at cb
      have hxor := xor85 c0
      obtain ⟨c1, hc1⟩ : ∃ c, c = c0 ^^^ 85 := ⟨_, rfl⟩
      rw [← hc1] at hxor
      have PUT := Lib.hid (hput c1)
      clear hput hc0 hc1 H H9b
      go_wp2
      go_roundw
      case rel => exact ⟨i + 1, q.set i c1, by omega, by go_num, PUT.out⟩
      case measure => simp [intOf]; omega
    · have R1 : Hid (wr.rangeAt b5b 0 c9b) := rng H.out 0 rfl
      have R2 : Hid (wr.rangeAt b5 0 c9) := rng H.out 1 rfl
      have CSM := same_self Y.1 HYS.out a5 a7 dl k5 k7 wr (H.out.viewAt 2 rfl) (VB.out wr H.out.below) HDL.out.symm
      unfold ntV at CSM
      rw [← HC9.out, ← HC9b.out] at CSM
      have CSM := Lib.hid CSM
      have BR := Lib.hid H.out.below
      clear H H9b VB
      go_wp2_with (first
        | (refine wpList_val rfl (load_note c9 NL9.out rfl _ (b := b5) (k := 0) R2.out rfl) ?_)
        | (refine wpList_val rfl (load_note c9b NL9b.out rfl _ (b := b5b) (k := 0) R1.out rfl) ?_))
      refine CSM.out.mono ?_
      clear CSM R1 R2
      rintro e wz ⟨rfl, hz⟩
      have BZ := Lib.hid (BR.out.trans (hz.mono BR.out.size))
      clear hz BR
      go_wp2
      go_ret
      exact ⟨rfl, BZ.out⟩

set_option maxRecDepth 10000 in
set_option maxHeartbeats 8000000 in
theorem walk_cut (n : Nte) (f : Fits n) (ao : Option Addr) (len cap : Nat) (cut : Nat) (hcut : cut < 65536) (ab : Option Addr) (nb cb : Nat) (q : RecM.Bs) {w : World} (hg : Given w ao len cap n.data) (hq : Given w ab nb cb q) (K : Kept w) :
    Calls Try.prog 7 #[ntV n (.slice ao len cap), .int .u16 (cut : Int), .slice ab nb cb] w (RetYes w) := by
  obtain ⟨cs, hcs⟩ : ∃ cs, cs = ntC n (.slice ao len cap) := ⟨_, rfl⟩
  show Calls Try.prog _ #[.agg (ntC n (.slice ao len cap)).toArray, .int .u16 (cut : Int), .slice ab nb cb] w _
  rw [← hcs]
  obtain ⟨rt, hrt⟩ : ∃ b, b = right n := ⟨_, rfl⟩
  obtain ⟨P, hP⟩ : ∃ P, P = pagesN n := ⟨_, rfl⟩
  obtain ⟨Y, hY⟩ : ∃ Y, Y = lay n := ⟨_, rfl⟩
  have NL : Hid (cs.length = 37) := by show _ = _; rw [hcs]; exact ntC_len n _ f.sum
  have KR1 : Hid (∀ wx, Below w.heap.size w wx → len ≤ 10000 → Calls Try.prog 12 #[.agg cs.toArray] wx fun e w' => e = .returned (.bool rt) ∧ Below wx.heap.size wx w') := by
    intro wx hwx hn
    rw [hcs, hrt]
    exact K.right n ao len cap f hwx (hg.later hwx) (by omega)
  have KL1 : Hid (∀ wx, Below w.heap.size w wx → len ≤ 10000 → Calls Try.prog 10 #[.agg cs.toArray] wx (LayDone Y wx)) := by
    intro wx hwx hn
    rw [hcs, hY]
    exact K.lay n ao len cap f hwx (hg.later hwx) (by omega)
  have KP1 : Hid (∀ wx, Below w.heap.size w wx → len ≤ 10000 → Calls Try.prog 14 #[.agg cs.toArray] wx fun e w' => e = .returned (.int .i64 (P : Int)) ∧ Below wx.heap.size wx w') := by
    intro wx hwx hn
    rw [hcs, hP]
    exact K.pages n ao len cap f hwx (hg.later hwx) (by omega)
  have KT1 : Hid (∀ wx a m c p, Below w.heap.size w wx → Given wx a m c p → m ≤ 20000 → Calls Try.prog 16 #[.slice a m c] wx (TakeNew (RecM.take p) wx)) := by
    intro wx a m c p hwx h hm
    exact K.take a m c p hwx h (by omega)
  have HGQ := Lib.hid hq
  have HNQ := Lib.hid hq.size
  have HNOQ := Lib.hid (given_nil hq)
  clear hq
  obtain ⟨b, hb⟩ : ∃ b, b = w.heap.size := ⟨_, rfl⟩
  obtain ⟨w1, hw1⟩ : ∃ w1, w1 = w.alloc (.cells cs.toArray 30) := ⟨_, rfl⟩
  have H0 : Hid (Own.St w.heap.size w w1 [AVals b 30 cs]) := by rw [hb, hw1]; exact (Own.St.start w).boxV _ _
  have CS := Lib.hid (shown_any K H0.out.below)
  have C36 : Hid (cs[36]? = some (.slice ao len cap)) := by show _ = _; rw [hcs]; exact ntC_data n _ f.sum
  have HCS := Lib.hid hcs
  have HRT := Lib.hid hrt
  have HPP := Lib.hid hP
  have HY := Lib.hid hY
  have HG := Lib.hid hg
  have HF := Lib.hid f
  have HB := Lib.hid hb
  have HW1 := Lib.hid hw1
  clear hcs hrt hP hY hg f hb hw1
  obtain ⟨z, hz⟩ : ∃ z, z = ntC zeroN nilV := ⟨_, rfl⟩
  have HZ2 : Hid ((Try.prog.info? 30).bind (·.zero) = some (.agg z.toArray)) := by rw [hz]; exact zero_note
  have HZ0 : Hid (Try.prog.built 30 [] = some z.toArray) := by rw [hz]; exact built_note0
  have HZL : Hid (z.length = 37) := by show z.length = 37; rw [hz]; rfl
  have HZ := Lib.hid hz
  clear hz
  go_enter Try.func7, Try.ntmps7
  go_wp2_with (fail)
  rw [← HW1.out, ← HB.out]
  refine CS.out.mono ?_
  clear CS
  rintro e w2 ⟨rfl, hb2⟩
  have H2 := Lib.hid (H0.out.later hb2)
  have c36 := (H2.out.cellV 0 rfl 36 C36.out).1
  clear hb2 H0 HW1
  by_cases hlong : (10000 : Int) < (len : Int)
  · clear HB
    go_wp2
    go_ret
    exact ⟨rfl, H2.out.below⟩
  have hn : len ≤ 10000 := by omega
  have hdec : decide ((10000 : Int) < (len : Int)) = false := decide_eq_false hlong
  by_cases hlong2 : (10000 : Int) < (nb : Int)
  · clear HB
    go_wp2
    go_ret
    exact ⟨rfl, H2.out.below⟩
  have hnb : nb ≤ 10000 := by omega
  have hdec2 : decide ((10000 : Int) < (nb : Int)) = false := decide_eq_false hlong2
  have R2 : Hid (w2.rangeAt b 0 cs) := rng H2.out 0 rfl
  go_wp2_with (refine wpList_val rfl (load_note cs NL.out rfl _ (b := b) (k := 0) R2.out rfl) ?_)
  refine (KR1.out w2 H2.out.below hn).mono ?_
  clear KR1 R2 c36
  rintro e w3 ⟨rfl, hb3⟩
  have H3 := Lib.hid (H2.out.later hb3)
  have c36 := (H3.out.cellV 0 rfl 36 C36.out).1
  clear hb3 H2
  cases rt
  · go_wp2
    go_ret
    exact ⟨rfl, H3.out.below⟩
  have R3 : Hid (w3.rangeAt b 0 cs) := rng H3.out 0 rfl
  have HYY : Hid (Y = (laid n, 0)) := HY.out.trans (lay_right HRT.out.symm)
  obtain ⟨Lb, hLb⟩ : ∃ l, l = laid n := ⟨_, rfl⟩
  obtain ⟨L, hL⟩ : ∃ L, L = Lb.length := ⟨_, rfl⟩
  have HLL := Lib.hid hL
  have hsm : L ≤ 351 ∧ 0 < L := by rw [hL, hLb]; exact laid_small HF.out HRT.out.symm
  have CL : Hid (∀ wx, Below w.heap.size w wx → Calls Try.prog 10 #[.agg cs.toArray] wx fun e w' => ∃ ao cap, e = .returned (.tuple #[.slice ao L cap, errN 0]) ∧ Given w' ao L cap Lb ∧ Below wx.heap.size wx w') := by
    intro wx hwx
    have h := KL1.out wx hwx hn
    rw [HYY.out, ← hLb] at h
    unfold LayDone at h
    simp only [← hL] at h
    exact h
  have HLP : Hid (Lb = laid n) := hLb
  clear KL1 hLb hL KP1
  go_wp2_with (refine wpList_val rfl (load_note cs NL.out rfl _ (b := b) (k := 0) R3.out rfl) ?_)
  refine (CL.out w3 H3.out.below).mono ?_
  clear CL R3 c36 HB
  rintro e w4 ⟨a2, k2, rfl, hg2, hb4⟩
  have H4 := Lib.hid (H3.out.later hb4)
  have G2 := Lib.hid hg2
  have hroom := hg2.room
  have hno2 := hg2.nil
  have hL0 : ((L : Int) == 0) = false := by rw [beq_eq_false_iff_ne]; omega
  have hL0n : ¬ ((L : Int) = 0) := by omega
  obtain ⟨k, hk⟩ : ∃ k, k = cut % L := ⟨_, rfl⟩
  have hkL : k < L := by rw [hk]; exact Nat.mod_lt _ hsm.2
  have hmod : (cut : Int) % (L : Int) = (k : Int) := by rw [hk]; omega
  have HCT := Lib.hid (cutTo (ao := a2) (l := Lb) (m := L) (cap := k2) k HLL.out.symm (by omega) hroom.1 hroom.2 hno2).1
  have G3 := Lib.hid (given_take G2.out k (by omega))
  have CT := KT1.out w4 a2 k k2 (Lb.take k) H4.out.below G3.out (by omega)
  rw [take_none (by rw [HLP.out]; exact not_begin HF.out HRT.out.symm k (by rw [← HLP.out, ← HLL.out]; exact hkL))] at CT
  have CT := Lib.hid CT
  clear hg2 hb4 H3 G3 hk hno2
  go_wp2_with (first
    | (refine Byt.wpList_val rfl (HCT.out _ (.tmp 43) (.tmp 48) rfl _ _ rfl (by first | rfl | (show Value.int .i64 _ = _; rw [← hmod]))) ?_))
  refine CT.out.mono ?_
  clear CT HCT
  rintro e w5 ⟨a5, k5, he, hg5, hv5, hb5⟩
  have H5 := Lib.hid (H4.out.later hb5)
  have G5 := Lib.hid (G2.out.later hb5)
  clear hg5 hv5 hb5 H4 G2
  obtain ⟨c9, hc9⟩ : ∃ x, x = ntC zeroN (.slice a5 0 k5) := ⟨_, rfl⟩
  have HC9 := Lib.hid hc9
  have he' : e = .returned (.tuple #[.agg c9.toArray, errN 100]) := by rw [he, hc9]; try rfl
  clear he
  subst he'
  have NL9 : Hid (c9.length = 37) := by show _ = _; rw [hc9]; exact ntC_len _ _ zsum_len
  obtain ⟨b5, hb5⟩ : ∃ b, b = w5.heap.size := ⟨_, rfl⟩
  obtain ⟨W4, hW4⟩ : ∃ W, W = w5.alloc (.cells z.toArray 30) := ⟨_, rfl⟩
  have h4 := (H5.out.boxV 30 z)
  rw [← hb5, ← hW4] at h4
  have TH : Hid (W4.there b5 0 c9.toArray.size) := h4.thereV 0 rfl (by rw [List.size_toArray, NL9.out, HZL.out]; exact Nat.le_refl _)
  have hset := Own.St.setAll 0 c9 0 W4 _ z h4 rfl (by rw [NL9.out, HZL.out])
  simp only [List.set_cons_zero, List.take_zero, List.nil_append] at hset
  obtain ⟨W5, hW5⟩ : ∃ W, W = W4.setCells b5 0 c9.toArray.toList := ⟨_, rfl⟩
  have H9 : Hid (Own.St w.heap.size w W5 [AVals b5 30 c9, AVals b 30 cs]) := by rw [hW5, List.toList_toArray]; exact hset
  have IO : Hid ((Try.prog.info? 30).map (·.size) = some c9.toArray.size) := info_noteA c9 NL9.out
  have OO : Hid (c9.toArray.all (·.oneCell') = true) := oneN rfl c9 hc9
  have HB5 := Lib.hid hb5
  have HW4 := Lib.hid hW4
  have HW5 := Lib.hid hW5
  clear h4 hset hb5 hW4 hW5 hc9
  have B49 : Hid (Below w5.heap.size w5 W5) := by
    have h1 := ((Own.St.start w5).boxV 30 z)
    rw [← HB5.out, ← HW4.out] at h1
    have h2 := Own.St.setAll 0 c9 0 W4 _ z h1 rfl (by rw [NL9.out, HZL.out])
    show Below _ _ _
    rw [HW5.out, List.toList_toArray, ← HB5.out]
    exact h2.below
  have G9 := Lib.hid (G5.out.later B49.out)
  have HE := Lib.hid (ab_empty H9.out)
  have G9b := Lib.hid (G9.out.later ((Own.St.start W5).alloc (.cells #[] 5)).below)
  have HCB := Lib.hid (vcells G9b.out.view)
  have HQE := Lib.hid (HGQ.out.later HE.out.below)
  have HNO2 := Lib.hid (given_nil G9.out)
  have HLL2 := Lib.hid HLL.out.symm
  clear G5 B49
  go_wp2_with (first
  | (refine Own.wpList_allocZ rfl 30 rfl z.toArray HZ2.out ?_; rw [← HB5.out, ← HW4.out])
  | (refine wpList_store_mid rfl 30 (.tmp 10) (.tmp 51) rfl b5 0 c9.toArray rfl rfl TH.out IO.out OO.out ?_; rw [← HW5.out])
    | (at_builtin; refine Byt.wpList_ab_append rfl (.tmp 54) (.tmp 55) rfl HE.out 0 rfl rfl a2 L k2 Lb rfl HNO2.out HLL2.out HCB.out (by omega) ?_; intro a6 c6 w6 h6; simp only [List.set_cons_zero, Nat.zero_add, List.nil_append] at h6 ⊢; have H6 := Lib.hid h6; have HCQ := Lib.hid (vcells (HGQ.out.later h6.below).view); clear h6)
    | (at_builtin; refine Byt.wpList_ab_append rfl (.tmp 56) (.tmp 57) rfl H6.out 0 rfl rfl ab nb cb q rfl HNOQ.out HNQ.out HCQ.out (by omega) ?_; intro a7 c7 w7 h7; simp only [List.set_cons_zero] at h7 ⊢; have H7 := Lib.hid h7; clear h7))
  have CT := KT1.out w7 a7 (L + nb) c7 (Lb ++ q) H7.out.below (given_own H7.out 0 rfl) (by omega)
  clear KT1 HE G9b HCB HQE HNO2 H9 G9 TH IO OO HB5 HW4 HW5
  by_cases hq0 : nb = 0
  · have hqn : q = [] := List.eq_nil_of_length_eq_zero (by rw [HNQ.out]; exact hq0)
    rw [hqn, List.append_nil, HLP.out, take_laid HF.out HRT.out.symm] at CT
    obtain ⟨dl, hdl⟩ : ∃ d, d = n.data.length := ⟨_, rfl⟩
    unfold TakeNew at CT
    simp only [← hdl] at CT
    refine CT.mono ?_
    clear CT hqn
    subst hq0
    rintro e w8 ⟨a8, k8, he, hg8, hv8, hb8⟩
    have H8 := Lib.hid (H7.out.later hb8)
    clear hg8 hv8 hb8 H7
    obtain ⟨c9b, hc9⟩ : ∃ x, x = ntC n (.slice a8 dl k8) := ⟨_, rfl⟩
    have HC9b := Lib.hid hc9
    have he' : e = .returned (.tuple #[.agg c9b.toArray, errN 0]) := by rw [he, hc9]; try rfl
    clear he
    subst he'
    have NL9b : Hid (c9b.length = 37) := by show _ = _; rw [hc9]; exact ntC_len _ _ HF.out.sum
    obtain ⟨b5b, hb5⟩ : ∃ b, b = w8.heap.size := ⟨_, rfl⟩
    obtain ⟨W4b, hW4⟩ : ∃ W, W = w8.alloc (.cells z.toArray 30) := ⟨_, rfl⟩
    have h4 := (H8.out.boxV 30 z)
    rw [← hb5, ← hW4] at h4
    have THb : Hid (W4b.there b5b 0 c9b.toArray.size) := h4.thereV 0 rfl (by rw [List.size_toArray, NL9b.out, HZL.out]; exact Nat.le_refl _)
    have hset := Own.St.setAll 0 c9b 0 W4b _ z h4 rfl (by rw [NL9b.out, HZL.out])
    simp only [List.set_cons_zero, List.take_zero, List.nil_append] at hset
    obtain ⟨W5b, hW5⟩ : ∃ W, W = W4b.setCells b5b 0 c9b.toArray.toList := ⟨_, rfl⟩
    have H9b : Hid (Own.St w.heap.size w W5b [AVals b5b 30 c9b, AB a7 (L + 0) c7 (Lb ++ q), AVals b5 30 c9, AVals b 30 cs]) := by rw [hW5, List.toList_toArray]; exact hset
    have IOb : Hid ((Try.prog.info? 30).map (·.size) = some c9b.toArray.size) := info_noteA c9b NL9b.out
    have OOb : Hid (c9b.toArray.all (·.oneCell') = true) := oneN rfl c9b hc9
    have HB5b := Lib.hid hb5
    have HW4b := Lib.hid hW4
    have HW5b := Lib.hid hW5
    clear h4 hset hb5 hW4 hW5 hc9
    go_wp2_with (first
      | (refine Own.wpList_allocZ rfl 30 rfl z.toArray HZ2.out ?_; rw [← HB5b.out, ← HW4b.out])
      | (refine wpList_store_mid rfl 30 (.tmp 12) (.tmp 60) rfl b5b 0 c9b.toArray rfl rfl THb.out IOb.out OOb.out ?_; rw [← HW5b.out]))
    go_ret
    exact ⟨rfl, H9b.out.below⟩
  · have hqn : q ≠ [] := fun h => hq0 (by rw [← HNQ.out, h]; rfl)
    rw [take_none (by rw [HLP.out]; exact not_more HF.out HRT.out.symm q hqn)] at CT
    refine CT.mono ?_
    clear CT hqn
    have hqd : decide (0 < nb) = true := decide_eq_true (by omega)
    rintro e w8 ⟨a8, k8, he, hg8, hv8, hb8⟩
    have H8 := Lib.hid (H7.out.later hb8)
    clear hg8 hv8 hb8 H7
    obtain ⟨c9b, hc9⟩ : ∃ x, x = ntC zeroN (.slice a8 0 k8) := ⟨_, rfl⟩
    have HC9b := Lib.hid hc9
    have he' : e = .returned (.tuple #[.agg c9b.toArray, errN 100]) := by rw [he, hc9]; try rfl
    clear he
    subst he'
    have NL9b : Hid (c9b.length = 37) := by show _ = _; rw [hc9]; exact ntC_len _ _ zsum_len
    obtain ⟨b5b, hb5⟩ : ∃ b, b = w8.heap.size := ⟨_, rfl⟩
    obtain ⟨W4b, hW4⟩ : ∃ W, W = w8.alloc (.cells z.toArray 30) := ⟨_, rfl⟩
    have h4 := (H8.out.boxV 30 z)
    rw [← hb5, ← hW4] at h4
    have THb : Hid (W4b.there b5b 0 c9b.toArray.size) := h4.thereV 0 rfl (by rw [List.size_toArray, NL9b.out, HZL.out]; exact Nat.le_refl _)
    have hset := Own.St.setAll 0 c9b 0 W4b _ z h4 rfl (by rw [NL9b.out, HZL.out])
    simp only [List.set_cons_zero, List.take_zero, List.nil_append] at hset
    obtain ⟨W5b, hW5⟩ : ∃ W, W = W4b.setCells b5b 0 c9b.toArray.toList := ⟨_, rfl⟩
    have H9b : Hid (Own.St w.heap.size w W5b [AVals b5b 30 c9b, AB a7 (L + nb) c7 (Lb ++ q), AVals b5 30 c9, AVals b 30 cs]) := by rw [hW5, List.toList_toArray]; exact hset
    have IOb : Hid ((Try.prog.info? 30).map (·.size) = some c9b.toArray.size) := info_noteA c9b NL9b.out
    have OOb : Hid (c9b.toArray.all (·.oneCell') = true) := oneN rfl c9b hc9
    have HB5b := Lib.hid hb5
    have HW4b := Lib.hid hW4
    have HW5b := Lib.hid hW5
    clear h4 hset hb5 hW4 hW5 hc9
    go_wp2_with (first
      | (refine Own.wpList_allocZ rfl 30 rfl z.toArray HZ2.out ?_; rw [← HB5b.out, ← HW4b.out])
      | (refine wpList_store_mid rfl 30 (.tmp 12) (.tmp 60) rfl b5b 0 c9b.toArray rfl rfl THb.out IOb.out OOb.out ?_; rw [← HW5b.out]))
    go_ret
    exact ⟨rfl, H9b.out.below⟩
end Rec
end Go.Proofs.Ytefbcoakjdjkgaa
