/- Layer 8: the document's disk: Crash, Barrier. -/
import Derived.Test.YtkddeccgoamopaaBakRc
namespace Go.Proofs.Ytkddeccgoamopaa
open Go.RowKit Go.Own
namespace Bak
open Go.BakM Byt

set_option maxHeartbeats 1600000 in
theorem crashR_any {B : Nat} {w0 w : World} {Ps : List Asn} {p : Nat} {vS : Value} {s : DS} {N : Nat} (H : Own.St B w0 w (ARef p vS s :: Ps)) (hok : Ok s N) (hN : N ≤ 100000) (t : Nat) (ht : t ≤ 18446744073709551615) :
    Calls Try.prog 36 #[ptr p, .int .u64 (t : Int)] w fun e w' => e = .returned (.tuple #[]) ∧ Own.St B w0 w' (ARef p vS (crash s t) :: Ps) := by
  have C1 := Lib.hid (some_any H hok hN t ht)
  clear H hok
  go_enter Try.func36, Try.ntmps36
  go_wp2_with (fail)
  refine C1.out.mono ?_
  clear C1
  rintro e w1 ⟨rfl, h1⟩
  obtain ⟨vL, H⟩ := ref_open h1
  have f2 := (H.cellV 0 rfl 2 rfl).2
  have f3 := (H.cellV 0 rfl 3 rfl).2
  have c2 := (H.cellV 0 rfl 2 rfl).1
  have c3 := (H.cellV 0 rfl 3 rfl).1
  have H2 : Hid (Own.St B w0 ((w1.setCell ⟨p, 2, none⟩ (.bool false)).setCell ⟨p, 3, none⟩ (.int .i64 (-1))) (ARef p vS (crash s t) :: Ps)) :=
    ref_close (s := crash s t) ((H.storeV 0 rfl 2 (.bool false)).storeV 0 rfl 3 (.int .i64 (-1)))
  clear H h1
  go_wp2
  go_end0
  exact ⟨rfl, H2.out⟩

set_option maxHeartbeats 1600000 in
theorem barrierR_any {B : Nat} {w0 w : World} {Ps : List Asn} {p : Nat} {vS : Value} {s : DS} {N : Nat} (H : Own.St B w0 w (ARef p vS s :: Ps)) (hok : Ok s N) (hN : N ≤ 100000) :
    Calls Try.prog 34 #[ptr p] w fun e w' => e = .returned (errV (barrier s).2) ∧ Own.St B w0 w' (ARef p vS (barrier s).1 :: Ps) := by
  obtain ⟨R, hR⟩ : ∃ R, R = barrier s := ⟨_, rfl⟩
  rw [← hR]
  have O1 := Lib.hid (off_any H)
  have HR0 := Lib.hid hR
  have HOK2 := Lib.hid (ok_trip hok)
  clear hR H hok
  go_enter Try.func34, Try.ntmps34
  go_wp2_with (fail)
  refine O1.out.mono ?_
  clear O1
  rintro e w1 ⟨rfl, h1⟩
  cases hto : (trip s).off with
  | true =>
    have HR : Hid (R = (trip s, 6)) := by show R = _; rw [HR0.out]; unfold barrier; rw [if_pos hto]
    have H1 := Lib.hid h1
    clear hto h1
    go_wp2
    go_ret
    rw [HR.out]
    exact ⟨rfl, H1.out⟩
  | false =>
    have HR : Hid (R = (okd (some' (trip s) full), 0)) := by show R = _; rw [HR0.out]; unfold barrier; rw [if_neg (by rw [hto]; simp)]
    have C1 := Lib.hid (some_any h1 HOK2.out hN full (by unfold full; omega))
    clear hto h1 HR0
    go_wp2_with (fail)
    refine C1.out.mono ?_
    clear C1
    rintro e w2 ⟨rfl, h2⟩
    have C2 := Lib.hid (done_any h2 (by have := HOK2.out.n; show (trip s).n ≤ _; omega) HOK2.out.left)
    clear h2
    go_wp2_with (fail)
    refine C2.out.mono ?_
    clear C2
    rintro e w3 ⟨rfl, h3⟩
    have H3 := Lib.hid h3
    clear h3
    go_wp2
    go_ret
    rw [HR.out]
    exact ⟨rfl, H3.out⟩
end Bak
end Go.Proofs.Ytkddeccgoamopaa
