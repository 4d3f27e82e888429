/- The landed flash: how a flash lies in memory; the methods that only look, Cut; a nil flash. -/
import Derived.Test.YtepllhfofhehaaaFlbF
namespace Go.FlaM
theorem doOne_len (pp : Nat) (G : List (List Bs)) (a : Act) (e : Int) : (doOne pp G a e).length = G.length := by
  unfold doOne
  split
  · exact setPage_len _ _ _ _
  · exact clearTo_len _ _ _
theorem nowG_len (pp : Nat) : ∀ (L : List Act) (G : List (List Bs)), (nowG pp G L).length = G.length
  | [], _ => rfl
  | a :: L, G => (nowG_len pp L _).trans (doOne_len pp G a 128)
theorem doAllF_len (pp : Nat) (φ : Nat → Int) : ∀ (L : List Act) (G : List (List Bs)) (i : Nat), (doAllF pp φ G i L).length = G.length
  | [], _, _ => rfl
  | a :: L, G, i => (doAllF_len pp φ L _ _).trans (doOne_len pp G a _)
end Go.FlaM
namespace Go.Proofs.Ytepllhfofhehaaa
open Go.RowKit Go.Own
namespace Fla
open Go.FlaM Byt

abbrev intV (n : Nat) : Value := .int .i64 (n : Int)
structure Hidden where
  aN : Option Addr
  cN : Nat
  aS : Option Addr
  cS : Nat
  vP : Value
  vW : Value
  armed : Bool
  lf : Int
structure HRel (x : Hidden) (s : FS) : Prop where
  i64 : i64B x.lf
  on : s.off = false → (x.armed = true → x.lf = s.left) ∧ (x.armed = false → s.left = -1)
  pos : x.armed = true → 0 ≤ x.lf
abbrev gridT (v : Value) (G : List (List Bs)) : Asn := PGrid 66 76 v G
def flParts (p : Nat) (x : Hidden) (s : FS) : List Asn := [AVals p 65 (flCells s.pp (.slice x.aN s.safe.length x.cN) (.slice x.aS s.safe.length x.cS) x.vP x.vW s.n s.off x.armed x.lf), gridT (.slice x.aN s.safe.length x.cN) (nowG s.pp s.safe s.L), gridT (.slice x.aS s.safe.length x.cS) s.safe, ARow 78 131 x.vP s.L.length (s.L.flatMap opCells), ARow 3 1 x.vW s.wear.length (s.wear.map intV)]
def AFl (p : Nat) (s : FS) : Asn := AEx (α := { x : Hidden // HRel x s }) fun x => AJoin (flParts p x.1 s)
section
variable {B : Nat} {w0 w : World} {Ps : List Asn} {p : Nat} {s : FS}
theorem flOpen (H : Own.St B w0 w (AFl p s :: Ps)) : ∃ x, HRel x s ∧ Own.St B w0 w (flParts p x s ++ Ps) := by
  obtain ⟨⟨x, hx⟩, h⟩ := H.openE
  exact ⟨x, hx, h.openJ⟩
theorem flClose {x : Hidden} (hx : HRel x s) (H : Own.St B w0 w (flParts p x s ++ Ps)) : Own.St B w0 w (AFl p s :: Ps) :=
  St.closeE (α := { x : Hidden // HRel x s }) (P := fun x => AJoin (flParts p x.1 s)) ⟨x, hx⟩ H.closeJ

theorem segs_any {N : Nat} (H : Own.St B w0 w (AFl p s :: Ps)) (ok : Ok s N) : Calls Try.prog 30 #[ptr p] w fun e w' => e = .returned (errV s.safe.length) ∧ Below w.heap.size w w' := by
  obtain ⟨x, _, h⟩ := flOpen H
  have c1 := (h.cellV 0 rfl 1 rfl).1
  have := ok.segs
  go_enter Try.func30, Try.ntmps30
  go_wp2
  go_ret
  exact ⟨rfl, Below.refl _ _⟩
theorem pages_any (H : Own.St B w0 w (AFl p s :: Ps)) : Calls Try.prog 31 #[ptr p] w fun e w' => e = .returned (errV s.pp) ∧ Below w.heap.size w w' := by
  obtain ⟨x, _, h⟩ := flOpen H
  have c1 := (h.cellV 0 rfl 0 rfl).1
  go_enter Try.func31, Try.ntmps31
  go_wp2
  go_ret
  exact ⟨rfl, Below.refl _ _⟩
theorem doneB_any (H : Own.St B w0 w (AFl p s :: Ps)) : Calls Try.prog 27 #[ptr p] w fun e w' => e = .returned (errV s.n) ∧ Below w.heap.size w w' := by
  obtain ⟨x, _, h⟩ := flOpen H
  have c1 := (h.cellV 0 rfl 5 rfl).1
  go_enter Try.func27, Try.ntmps27
  go_wp2
  go_ret
  exact ⟨rfl, Below.refl _ _⟩
theorem dead_any (H : Own.St B w0 w (AFl p s :: Ps)) : Calls Try.prog 29 #[ptr p] w fun e w' => e = .returned (.bool s.off) ∧ Below w.heap.size w w' := by
  obtain ⟨x, _, h⟩ := flOpen H
  have c1 := (h.cellV 0 rfl 6 rfl).1
  go_enter Try.func29, Try.ntmps29
  go_wp2
  go_ret
  exact ⟨rfl, Below.refl _ _⟩
theorem wear_any {N : Nat} (H : Own.St B w0 w (AFl p s :: Ps)) (ok : Ok s N) (hN : N ≤ 10000) (seg : Int) (hseg : i64B seg) : Calls Try.prog 28 #[ptr p, .int .i64 seg] w fun e w' => e = .returned (errV (wearOf s seg)) ∧ Below w.heap.size w w' := by
  obtain ⟨x, _, h⟩ := flOpen H
  have HS := Lib.hid (hasSeg_st h seg)
  have hwl := ok.wear
  have hsl := ok.segs
  by_cases hin : 0 ≤ seg ∧ seg < (s.safe.length : Int)
  · obtain ⟨k, hk⟩ : ∃ k : Nat, seg = (k : Int) := ⟨seg.toNat, by omega⟩
    subst hk
    have hkl : k < s.wear.length := by omega
    obtain ⟨aW, cW, hW⟩ := h.rowForm 4 rfl
    have c4 := (h.cellV 0 rfl 4 rfl).1
    rw [hW] at c4
    have h4 : (flParts p x s ++ Ps)[4]? = some (ARow 3 1 (.slice aW s.wear.length cW) s.wear.length (s.wear.map intV)) := by rw [← hW]; rfl
    obtain ⟨g, rfl, ⟨u, hu, cu⟩, _, _⟩ := h.rowAt 4 h4 k (by omega)
    obtain ⟨q, hq⟩ : ∃ q, s.wear[k]? = some q := ⟨_, List.getElem?_eq_getElem hkl⟩
    rw [List.getElem?_map, hq] at hu
    cases hu
    have HV : Hid (wearOf s (k : Int) = q) := by
      show wearOf s (k : Int) = q
      unfold wearOf
      rw [if_pos (by omega), show ((k : Int)).toNat = k from rfl, List.getD_eq_getElem?_getD, hq]
      rfl
    rw [decide_eq_true hin] at HS
    obtain ⟨nW, hnW⟩ : ∃ n, n = s.wear.length := ⟨_, rfl⟩
    rw [← hnW] at c4 hkl
    clear hin hwl hsl h4 hq hW h H hnW ok
    go_enter Try.func28, Try.ntmps28
    go_wp2_with (fail)
    refine HS.out.mono ?_
    rintro e w1 ⟨rfl, rfl⟩
    clear HS
    go_wp2
    go_ret
    exact ⟨by rw [HV.out]; try rfl, Below.refl _ _⟩
  · have HV : Hid (wearOf s seg = 0) := by
      show wearOf s seg = 0
      unfold wearOf
      split
      · rw [List.getD_eq_getElem?_getD, List.getElem?_eq_none (by omega)]; rfl
      · rfl
    rw [decide_eq_false hin] at HS
    clear hin hwl hsl h H ok
    go_enter Try.func28, Try.ntmps28
    go_wp2_with (fail)
    refine HS.out.mono ?_
    rintro e w1 ⟨rfl, rfl⟩
    clear HS
    go_wp2
    go_ret
    exact ⟨by rw [HV.out]; rfl, Below.refl _ _⟩
theorem cut_any (H : Own.St B w0 w (AFl p s :: Ps)) (after : Int) (ha : i64B after) : Calls Try.prog 26 #[ptr p, .int .i64 after] w fun e w' => e = .returned (.tuple #[]) ∧ Own.St B w0 w' (AFl p (cut s after) :: Ps) := by
  obtain ⟨x, hx, h⟩ := flOpen H
  have c6 := (h.cellV 0 rfl 6 rfl)
  have c7 := (h.cellV 0 rfl 7 rfl)
  have h1 := h.storeV 0 rfl 7 (.bool (decide (0 ≤ after)))
  have c8 := (h1.cellV 0 rfl 8 rfl)
  have h2 := h1.storeV 0 rfl 8 (.int .i64 after)
  have H0 := Lib.hid H
  have H2 := Lib.hid h2
  clear H h h1 h2
  obtain ⟨off, hoff⟩ : ∃ o, o = s.off := ⟨_, rfl⟩
  rw [← hoff] at c6
  have HO := Lib.hid hoff
  clear hoff
  go_enter Try.func26, Try.ntmps26
  cases off
  · by_cases h0 : 0 ≤ after
    · rw [decide_eq_true h0] at c8 H2
      go_wp2
      go_end0
      refine ⟨rfl, ?_⟩
      have e : cut s after = { s with left := max after (-1) } := by unfold cut; rw [← HO.out]; rfl
      rw [e]
      exact flClose (x := { x with armed := true, lf := after }) ⟨ha, fun _ => ⟨fun _ => by show after = max after (-1); omega, fun h => (by cases h)⟩, fun _ => h0⟩ H2.out
    · rw [decide_eq_false h0] at c8 H2
      go_wp2
      go_end0
      refine ⟨rfl, ?_⟩
      have e : cut s after = { s with left := max after (-1) } := by unfold cut; rw [← HO.out]; rfl
      rw [e]
      exact flClose (x := { x with armed := false, lf := after }) ⟨ha, fun _ => ⟨fun h => (by cases h), fun _ => by show max after (-1) = -1; omega⟩, fun h => (by cases h)⟩ H2.out
  · clear c7 c8
    go_wp2
    refine bodyPost_ret (results_none rfl _ _ _) rfl ?_
    refine ⟨rfl, ?_⟩
    have e : cut s after = s := by unfold cut; rw [← HO.out]; rfl
    rw [e]
    exact H0.out
end
theorem nilProgram_any (seg page : Int) (v : Value) (w : World) : Calls Try.prog 18 #[.pointer none, .int .i64 seg, .int .i64 page, v] w fun e w' => e = .returned (errV 2) ∧ Below w.heap.size w w' := by
  go_enter Try.func18, Try.ntmps18
  go_wp2
  go_ret
  exact ⟨rfl, Below.refl _ _⟩
theorem nilErase_any (seg : Int) (w : World) : Calls Try.prog 17 #[.pointer none, .int .i64 seg] w fun e w' => e = .returned (errV 2) ∧ Below w.heap.size w w' := by
  go_enter Try.func17, Try.ntmps17
  go_wp2
  go_ret
  exact ⟨rfl, Below.refl _ _⟩
theorem nilBarrier_any (w : World) : Calls Try.prog 25 #[.pointer none] w fun e w' => e = .returned (errV 2) ∧ Below w.heap.size w w' := by
  go_enter Try.func25, Try.ntmps25
  go_wp2
  go_ret
  exact ⟨rfl, Below.refl _ _⟩
theorem nilRead_any (seg page : Int) (w : World) : Calls Try.prog 23 #[.pointer none, .int .i64 seg, .int .i64 page] w fun e w' => ∃ ao cap, e = .returned (.tuple #[.slice ao 0 cap, errV 2]) ∧ Below w.heap.size w w' := by
  go_enter Try.func23, Try.ntmps23
  go_wp2
  go_ret2
  exact ⟨none, 0, rfl, Below.refl _ _⟩
theorem nilCut_any (after : Int) (w : World) : Calls Try.prog 26 #[.pointer none, .int .i64 after] w fun e w' => e = .returned (.tuple #[]) ∧ Below w.heap.size w w' := by
  go_enter Try.func26, Try.ntmps26
  go_wp2
  refine bodyPost_ret (results_none rfl _ _ _) rfl ?_
  exact ⟨rfl, Below.refl _ _⟩
theorem nilCopy_any (w : World) : Calls Try.prog 15 #[.pointer none] w fun e w' => e = .returned (.pointer none) ∧ Below w.heap.size w w' := by
  go_enter Try.func15, Try.ntmps15
  go_wp2
  go_ret
  exact ⟨rfl, Below.refl _ _⟩
theorem nilSegs_any (w : World) : Calls Try.prog 30 #[.pointer none] w fun e w' => e = .returned (errV 0) ∧ Below w.heap.size w w' := by
  go_enter Try.func30, Try.ntmps30
  go_wp2
  go_ret
  exact ⟨rfl, Below.refl _ _⟩
theorem nilPages_any (w : World) : Calls Try.prog 31 #[.pointer none] w fun e w' => e = .returned (errV 0) ∧ Below w.heap.size w w' := by
  go_enter Try.func31, Try.ntmps31
  go_wp2
  go_ret
  exact ⟨rfl, Below.refl _ _⟩
theorem nilWear_any (seg : Int) (w : World) : Calls Try.prog 28 #[.pointer none, .int .i64 seg] w fun e w' => e = .returned (errV 0) ∧ Below w.heap.size w w' := by
  go_enter Try.func28, Try.ntmps28
  go_wp2
  go_ret
  exact ⟨rfl, Below.refl _ _⟩
theorem nilDead_any (w : World) : Calls Try.prog 29 #[.pointer none] w fun e w' => e = .returned (.bool false) ∧ Below w.heap.size w w' := by
  go_enter Try.func29, Try.ntmps29
  go_wp2
  go_ret
  exact ⟨rfl, Below.refl _ _⟩
theorem nilDone_any (w : World) : Calls Try.prog 27 #[.pointer none] w fun e w' => e = .returned (errV 0) ∧ Below w.heap.size w w' := by
  go_enter Try.func27, Try.ntmps27
  go_wp2
  go_ret
  exact ⟨rfl, Below.refl _ _⟩
theorem nilCrash_any (v : Value) (w : World) : Calls Try.prog 16 #[.pointer none, v] w fun e w' => e = .returned (.tuple #[]) ∧ Below w.heap.size w w' := by
  go_enter Try.func16, Try.ntmps16
  go_wp2
  all_goals (try go_wp2)
  all_goals
    refine bodyPost_ret (results_none rfl _ _ _) rfl ?_
    exact ⟨rfl, (Below.refl w.heap.size w).alloc (Nat.le_refl _) _⟩
end Fla
end Go.Proofs.Ytepllhfofhehaaa
