/- Layer 10: what the landed package record keeps (a premise of the walks: 'Kept'; to be proved of the landed code); the document's Pages, Same. -/
import Derived.Test.YtefbcoakjdjkgaaRecT
import Derived.Test.YtefbcoakjdjkgaaRecRb
namespace Go.Proofs.Ytefbcoakjdjkgaa
open Go.RowKit Go.Own
namespace Rec
open Go.RecM Byt
def RetYes (w : World) (e : Ending) (w' : World) : Prop := e = .returned (.bool true) ∧ Below w.heap.size w w'
/-- an answer of Lay -/
def LayDone (x : RecM.Bs × Nat) (w : World) (e : Ending) (w' : World) : Prop := ∃ ao cap, e = .returned (.tuple #[.slice ao x.1.length cap, errN x.2]) ∧ Given w' ao x.1.length cap x.1 ∧ Below w.heap.size w w'
theorem LayNew.done {x : RecM.Bs × Nat} {w : World} {e : Ending} {w' : World} (h : LayNew x w e w') : LayDone x w e w' := by
  obtain ⟨ao, cap, he, h⟩ := h
  exact ⟨ao, cap, he, given_own h 0 rfl, h.below⟩
/-- an answer of Take in memory of its own -/
def TakeNew (x : Nte × Nat) (w : World) (e : Ending) (w' : World) : Prop := ∃ ao cap, e = .returned (.tuple #[ntV x.1 (.slice ao x.1.data.length cap), errN x.2]) ∧ Given w' ao x.1.data.length cap x.1.data ∧ View w' (fun k => w.heap.size ≤ k) ao x.1.data ∧ Below w.heap.size w w'
structure Kept (W : World) where
  right : ∀ {w : World} (n : Nte) (ao : Option Addr) (len cap : Nat), Fits n → Below W.heap.size W w → Given w ao len cap n.data → len ≤ 1000000 →
    Calls Try.prog 12 #[ntV n (.slice ao len cap)] w fun e w' => e = .returned (.bool (right n)) ∧ Below w.heap.size w w'
  lay : ∀ {w : World} (n : Nte) (ao : Option Addr) (len cap : Nat), Fits n → Below W.heap.size W w → Given w ao len cap n.data → len ≤ 1000000 →
    Calls Try.prog 10 #[ntV n (.slice ao len cap)] w (LayDone (lay n) w)
  take : ∀ {w : World} (ao : Option Addr) (n cap : Nat) (p : RecM.Bs), Below W.heap.size W w → Given w ao n cap p → n ≤ 1000000 →
    Calls Try.prog 16 #[.slice ao n cap] w (TakeNew (RecM.take p) w)
  pages : ∀ {w : World} (n : Nte) (ao : Option Addr) (len cap : Nat), Fits n → Below W.heap.size W w → Given w ao len cap n.data → len ≤ 1000000 →
    Calls Try.prog 14 #[ntV n (.slice ao len cap)] w fun e w' => e = .returned (.int .i64 (pagesN n : Int)) ∧ Below w.heap.size w w'

theorem laid_small {n : Nte} (f : Fits n) (h : right n = true) : (laid n).length ≤ 351 ∧ 0 < (laid n).length := by
  have := right_data h
  rw [laid_len f]
  unfold sizeN
  split
  · omega
  split
  · omega
  split <;> omega
set_option maxHeartbeats 1600000 in
theorem refPages_any (n : Nte) (f : Fits n) (ao : Option Addr) (len cap : Nat) (w : World) (hg : Given w ao len cap n.data) (hb : len ≤ 1000000) :
    Calls Try.prog 15 #[ntV n (.slice ao len cap)] w fun e w' => e = .returned (.int .i64 (pagesN n : Int)) ∧ Below w.heap.size w w' := by
  obtain ⟨cs, hcs⟩ : ∃ cs, cs = ntC n (.slice ao len cap) := ⟨_, rfl⟩
  show Calls Try.prog _ #[.agg (ntC n (.slice ao len cap)).toArray] w _
  rw [← hcs]
  obtain ⟨b, hbd⟩ : ∃ b, b = w.heap.size := ⟨_, rfl⟩
  obtain ⟨w1, hw1⟩ : ∃ w1, w1 = w.alloc (.cells cs.toArray 30) := ⟨_, rfl⟩
  have hbox : Own.St w.heap.size w w1 [AVals b 30 cs] := by rw [hbd, hw1]; exact (Own.St.start w).boxV 30 cs
  have NL : Hid (cs.length = 37) := by show cs.length = 37; rw [hcs]; exact ntC_len n _ f.sum
  have RN : Hid (w1.rangeAt b 0 cs) := fun j v hv => by rw [Nat.zero_add]; exact (hbox.cellV 0 rfl j hv).1
  have CL : Hid (Calls Try.prog 11 #[.agg cs.toArray] w1 (LayNew (lay n) w1)) := by
    rw [hcs]
    exact refLay_new n f ao len cap w1 (hg.later (by rw [hw1]; exact ((Own.St.start w).alloc _).below)) hb
  have HBX := Lib.hid hbox
  have HW1 := Lib.hid hw1
  have HBD := Lib.hid hbd
  obtain ⟨r, hr⟩ : ∃ r, r = right n := ⟨_, rfl⟩
  obtain ⟨P, hP⟩ : ∃ P, P = pagesN n := ⟨_, rfl⟩
  rw [← hP]
  unfold pagesN at hP
  rw [← hr] at hP
  cases r
  · have hx : lay n = ([], 1) := by unfold lay; rw [← hr]; rfl
    rw [hx] at CL
    rw [if_neg (by decide)] at hP
    subst hP
    clear hcs hbd hw1 hbox hg hr hx
    go_enter Try.func15, Try.ntmps15
    go_wp2_with (refine wpList_val rfl (load_note _ NL.out rfl _ (b := b) (by rw [← HW1.out]; exact RN.out) (by rw [HBD.out]; rfl)) ?_)
    rw [← HW1.out]
    refine CL.out.mono ?_
    clear CL
    rintro e w2 ⟨a2, c2, rfl, h2⟩
    have HB := Lib.hid (HBX.out.below.trans (h2.below.mono HBX.out.below.size))
    clear h2
    go_wp2
    go_ret
    exact ⟨rfl, HB.out⟩
  · have hx : lay n = (laid n, 0) := lay_of hr.symm
    obtain ⟨L, hL⟩ : ∃ L, L = (laid n).length := ⟨_, rfl⟩
    have hs := (laid_small f hr.symm).1
    rw [hx] at CL
    unfold LayNew at CL
    simp only [← hL] at CL
    rw [if_pos rfl, ← hL] at hP
    rw [← hL] at hs
    have hPi : ((L : Int) + 124) / 125 = (P : Int) := by omega
    have hP9 : P ≤ 4 := by omega
    clear hcs hbd hw1 hbox hg hr hx hL hP
    go_enter Try.func15, Try.ntmps15
    go_wp2_with (refine wpList_val rfl (load_note _ NL.out rfl _ (b := b) (by rw [← HW1.out]; exact RN.out) (by rw [HBD.out]; rfl)) ?_)
    rw [← HW1.out]
    refine CL.out.mono ?_
    clear CL
    rintro e w2 ⟨a2, c2, rfl, h2⟩
    have HB := Lib.hid (HBX.out.below.trans (h2.below.mono HBX.out.below.size))
    clear h2
    go_wp2
    go_ret
    refine ⟨?_, HB.out⟩
    show Ending.returned (.int .i64 (((L : Int) + 125 - 1) / 125)) = _
    rw [show ((L : Int) + 125 - 1) / 125 = (P : Int) by omega]

set_option maxHeartbeats 1600000 in
/-- a note is the same as itself, whatever memory its data lie in -/
theorem same_self (n : Nte) (hs : n.sum.length = 32) (a1 a2 : Option Addr) (len c1 c2 : Nat) (w : World) {D1 D2 : Nat → Prop} (h1 : View w D1 a1 n.data) (h2 : View w D2 a2 n.data) (hl : n.data.length = len) :
    Calls Try.prog 18 #[ntV n (.slice a1 len c1), ntV n (.slice a2 len c2)] w fun e w' => e = .returned (.bool true) ∧ Below w.heap.size w w' := by
  show Calls Try.prog _ #[.agg (ntC n (.slice a1 len c1)).toArray, .agg (ntC n (.slice a2 len c2)).toArray] w _
  obtain ⟨x, hx⟩ : ∃ cs, cs = ntC n (.slice a1 len c1) := ⟨_, rfl⟩
  obtain ⟨y, hy⟩ : ∃ cs, cs = ntC n (.slice a2 len c2) := ⟨_, rfl⟩
  rw [← hx, ← hy]
  have hbox := ((Own.St.start w).boxV 30 x).boxV 30 y
  obtain ⟨b, hbd⟩ : ∃ b, b = w.heap.size := ⟨_, rfl⟩
  obtain ⟨w1, hw1⟩ : ∃ w1, w1 = w.alloc (.cells x.toArray 30) := ⟨_, rfl⟩
  obtain ⟨c, hcd⟩ : ∃ b, b = w1.heap.size := ⟨_, rfl⟩
  obtain ⟨w2, hw2⟩ : ∃ w2, w2 = w1.alloc (.cells y.toArray 30) := ⟨_, rfl⟩
  have H : Hid (Own.St w.heap.size w w2 [AVals c 30 y, AVals b 30 x]) := by rw [hw2, hcd, hw1, hbd]; exact hbox
  have V1 : Hid (View w2 D1 a1 n.data) := vlater h1 H.out.below
  have V2 : Hid (View w2 D2 a2 n.data) := vlater h2 H.out.below
  have HL := Lib.hid hl
  have HS := Lib.hid hs
  have XL : Hid (x.length = 37) := by show _ = _; rw [hx]; exact ntC_len n _ hs
  have YL : Hid (y.length = 37) := by show _ = _; rw [hy]; exact ntC_len n _ hs
  have KL := Lib.hid (keyC_len n.sum n.kn hs)
  have RX : Hid (w2.rangeAt b 3 (keyC n.sum n.kn)) := fun j v hv => (H.out.cellV 1 rfl (3 + j) (by rw [hx]; exact ntC_key n _ j v hv)).1
  have RY : Hid (w2.rangeAt c 3 (keyC n.sum n.kn)) := fun j v hv => (H.out.cellV 0 rfl (3 + j) (by rw [hy]; exact ntC_key n _ j v hv)).1
  obtain ⟨k, hk⟩ : ∃ k, k = n.kind.toNat := ⟨_, rfl⟩
  obtain ⟨ad, had⟩ : ∃ a, a = n.addr := ⟨_, rfl⟩
  obtain ⟨sq, hsq⟩ : ∃ a, a = n.seq := ⟨_, rfl⟩
  have cx : ∀ j v, x[j]? = some v → w2.cell? ⟨b, j, none⟩ = some v := fun j v h => (H.out.cellV 1 rfl j h).1
  have cy : ∀ j v, y[j]? = some v → w2.cell? ⟨c, j, none⟩ = some v := fun j v h => (H.out.cellV 0 rfl j h).1
  have x0 := cx 0 (.int .u8 (k : Int)) (by rw [hx, hk]; rfl)
  have x1 := cx 1 (.int .u32 (ad : Int)) (by rw [hx, had]; rfl)
  have x2 := cx 2 (.int .u64 (sq : Int)) (by rw [hx, hsq]; rfl)
  have x36 := cx 36 (.slice a1 len c1) (by rw [hx]; exact ntC_data n _ hs)
  have y0 := cy 0 (.int .u8 (k : Int)) (by rw [hy, hk]; rfl)
  have y1 := cy 1 (.int .u32 (ad : Int)) (by rw [hy, had]; rfl)
  have y2 := cy 2 (.int .u64 (sq : Int)) (by rw [hy, hsq]; rfl)
  have y36 := cy 36 (.slice a2 len c2) (by rw [hy]; exact ntC_data n _ hs)
  rw [hw2, hw1] at x0 x1 x2 x36 y0 y1 y2 y36
  rw [hcd, hw1] at y0 y1 y2 y36
  rw [hbd] at x0 x1 x2 x36
  simp only [World.size_alloc] at y0 y1 y2 y36
  have E1 : Hid (w1 = w.alloc (.cells x.toArray 30)) := hw1
  have E2 : Hid (w2 = (w.alloc (.cells x.toArray 30)).alloc (.cells y.toArray 30)) := by show _ = _; rw [hw2, hw1]
  have EB : Hid (b = w.heap.size) := hbd
  have EC : Hid (c = w.heap.size + 1) := by show _ = _; rw [hcd, hw1]; simp
  have KE : Hid ((decide (n.sum = n.sum) && decide (n.kn = n.kn)) = true) := by show _ = _; simp
  have HDD : Hid (decide (n.data = n.data) = true) := decide_eq_true rfl
  have BB := Lib.hid H.out.below
  clear hx hy hbox hw1 hw2 hbd hcd H h1 h2 hl hs cx cy hk had hsq
  go_enter Try.func18, Try.ntmps18
  go_wp2_with (first
    | (refine wpList_val rfl (load_key _ KL.out rfl _ (by rw [← E2.out]; exact RX.out) (by rw [EB.out]; rfl)) ?_)
    | (refine wpList_val rfl (load_key _ KL.out rfl _ (by rw [← E2.out]; exact RY.out) (by rw [EC.out]; rfl)) ?_)
    | (refine wpList_val rfl (eql_key rfl HS.out HS.out KE.out _ _ rfl rfl) ?_)
    | (refine Byt.wpList_str8 rfl (.tmp 33) rfl a1 len c1 rfl _ _ (by rw [← E2.out]; exact V1.out) HL.out ?_)
    | (refine Byt.wpList_str8 rfl (.tmp 36) rfl a2 len c2 rfl _ _ (by rw [← E2.out]; exact V2.out) HL.out ?_)
    | (refine Byt.wpList_val rfl (eql_str rfl _ _ true HDD.out _ _ rfl rfl) ?_))
  rw [← E2.out]
  go_ret
  exact ⟨rfl, BB.out⟩
end Rec
end Go.Proofs.Ytefbcoakjdjkgaa
