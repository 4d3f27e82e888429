/- Layer 7: the document's flash in memory; erased, there, off, done. -/
import Derived.Test.YtepllhfofhehaaaGri
import Derived.Test.YtepllhfofhehaaaFlaQ
namespace Go.Proofs.Ytepllhfofhehaaa
open Go.RowKit Go.Own
namespace Fla
open Go.FlaM Byt

abbrev strV (b : Bs) : Value := .string (strB b)
abbrev nuV (n : Nat) : Value := .int .i64 (n : Int)
def actR (a : FlaM.Act) : List Value := [.int .i64 (a.seg : Int), .int .i64 a.page, strV a.b]
abbrev flashCells (vS vL vW : Value) (s : FS) : List Value := [vS, vL, vW, .bool s.off, .int .i64 s.left, nuV s.n, nuV s.pp]
abbrev GridS (vS : Value) (safe : List (List Bs)) : Asn := AGrid 73 9 strV vS safe
abbrev RowL (vL : Value) (L : List FlaM.Act) : Asn := ARow 93 3 vL L.length (L.flatMap actR)
abbrev RowW (vW : Value) (l : List Nat) : Asn := ARow 3 1 vW l.length (l.map nuV)
def refParts (p : Nat) (x : Value × Value × Value) (s : FS) : List Asn := [GridS x.1 s.safe, AVals p 72 (flashCells x.1 x.2.1 x.2.2 s), RowL x.2.1 s.L, RowW x.2.2 s.wear]
/-- the document's flash at p -/
def ARef (p : Nat) (s : FS) : Asn := AEx fun x : Value × Value × Value => AJoin (refParts p x s)
section
variable {B : Nat} {w0 w : World} {Ps : List Asn} {p : Nat} {s : FS} {vS vL vW : Value}
theorem ref_open (h : Own.St B w0 w (ARef p s :: Ps)) : ∃ vS vL vW, Own.St B w0 w (GridS vS s.safe :: AVals p 72 (flashCells vS vL vW s) :: RowL vL s.L :: RowW vW s.wear :: Ps) := by
  obtain ⟨⟨vS, vL, vW⟩, h⟩ := h.openE
  exact ⟨vS, vL, vW, h.openJ⟩
theorem ref_close (h : Own.St B w0 w (GridS vS s.safe :: AVals p 72 (flashCells vS vL vW s) :: RowL vL s.L :: RowW vW s.wear :: Ps)) : Own.St B w0 w (ARef p s :: Ps) :=
  Own.St.closeE (P := fun x : Value × Value × Value => AJoin (refParts p x s)) (vS, vL, vW) (Own.St.closeJ (Qs := refParts p (vS, vL, vW) s) h)
theorem grid_form (h : Own.St B w0 w (GridS vS s.safe :: Ps)) : ∃ ao c, vS = .slice ao s.safe.length c := by
  obtain ⟨rs, _, h⟩ := h.gridOpen
  exact h.rowForm 0 rfl
end

set_option maxHeartbeats 800000 in
theorem erased_any (w : World) : Calls Try.prog 34 #[] w fun e w' => e = .returned (strV FlaM.blank) ∧ Below w.heap.size w w' := by
  obtain ⟨w2, g, hmk, hst⟩ : ∃ w2 g, (Instr.makeSlice 32 (.int .i64 128) (.int .i64 128)).run Try.prog w = .ok (.slice (some ⟨g, 0, none⟩) 128 128) w2 ∧ Own.St w.heap.size w w2 [AB (some ⟨g, 0, none⟩) 128 128 (ones 255 128 0)] := by
    obtain ⟨w2, h1, h2⟩ := ab_make (Own.St.start w) .i64 .i64 128 (by omega)
    exact ⟨w2, _, h1, by rw [ones_zero]; exact h2⟩
  have HST := Lib.hid hst
  clear hst
  go_enter Try.func34, Try.ntmps34
  go_wp2
  clear hmk
  go_loopw [2] (fun v wr => ∃ k : Nat, k ≤ 128 ∧ v = .int .i64 (k : Int) ∧ Own.St w.heap.size w wr [AB (some ⟨g, 0, none⟩) 128 128 (ones 255 128 k)]) (fun v _ => 128 - (intOf v).toNat)
  case atStart => exact ⟨0, Nat.zero_le _, rfl, HST.out⟩
  case round =>
    obtain ⟨k, hk128, rfl, H⟩ := hrel
    have H := Lib.hid H
    clear HST
    by_cases hk : (k : Int) < 128
    · have hkn : k < 128 := by omega
      obtain ⟨g', hg', cb, fb, hput⟩ := ab_byte H.out 0 rfl k hkn
      cases hg'
      have PUT : Hid (Own.St w.heap.size w (wr.setCell ⟨g, k, none⟩ (.int .u8 255)) [AB (some ⟨g, 0, none⟩) 128 128 (ones 255 128 (k + 1))]) := by
        have h := hput 255
        simp only [List.set_cons_zero] at h
        rw [ones_set 255 128 k hkn] at h
        exact h
      clear hput H
      go_wp2
      go_roundw
      case rel => exact ⟨k + 1, by omega, by go_num, PUT.out⟩
      case measure => simp [intOf]; omega
    · have hst : (convert 32 9 (.slice (some ⟨g, 0, none⟩) 128 128)).run Try.prog wr = .ok (strV FlaM.blank) wr := by
        have h := ab_str H.out 0 rfl
        rw [show k = 128 by omega, ones_all] at h
        exact h
      have HB := Lib.hid H.out.below
      clear H hk128
      go_wp2
      go_ret
      exact ⟨rfl, HB.out⟩

set_option maxHeartbeats 800000 in
theorem there_any {B : Nat} {w0 w : World} {Ps : List Asn} {p : Nat} {s : FS} {N : Nat} (H : Own.St B w0 w (ARef p s :: Ps)) (hok : Ok s N) (seg page : Int) (b : Bool) (hb : there s seg page = b) :
    Calls Try.prog 54 #[ptr p, .int .i64 seg, .int .i64 page] w fun e w' => e = .returned (.bool b) ∧ w = w' := by
  obtain ⟨vS, vL, vW, H⟩ := ref_open H
  obtain ⟨ao, c, rfl⟩ := grid_form H
  have c0 := (H.cellV 1 rfl 0 rfl).1
  have c6 := (H.cellV 1 rfl 6 rfl).1
  have HB : Hid (decide (0 ≤ seg ∧ seg < (s.safe.length : Int) ∧ 0 ≤ page ∧ page < (s.pp : Int)) = b) := hb
  have h1 := hok.segs
  have h2 := hok.pp
  clear hb H hok
  by_cases g1 : 0 ≤ seg
  · by_cases g2 : seg < (s.safe.length : Int)
    · by_cases g3 : 0 ≤ page
      · by_cases g4 : page < (s.pp : Int)
        · obtain rfl : b = true := by rw [← HB.out]; exact decide_eq_true (by omega)
          clear HB
          go_enter Try.func54, Try.ntmps54
          go_wp2
          go_ret
          exact ⟨rfl, rfl⟩
        · obtain rfl : b = false := by rw [← HB.out]; exact decide_eq_false (by omega)
          clear HB
          go_enter Try.func54, Try.ntmps54
          go_wp2
          go_ret
          exact ⟨rfl, rfl⟩
      · obtain rfl : b = false := by rw [← HB.out]; exact decide_eq_false (by omega)
        clear HB
        go_enter Try.func54, Try.ntmps54
        go_wp2
        go_ret
        exact ⟨rfl, rfl⟩
    · obtain rfl : b = false := by rw [← HB.out]; exact decide_eq_false (by omega)
      clear HB
      go_enter Try.func54, Try.ntmps54
      go_wp2
      go_ret
      exact ⟨rfl, rfl⟩
  · obtain rfl : b = false := by rw [← HB.out]; exact decide_eq_false (by omega)
    clear HB
    go_enter Try.func54, Try.ntmps54
    go_wp2
    go_ret
    exact ⟨rfl, rfl⟩

theorem off_any {B : Nat} {w0 w : World} {Ps : List Asn} {p : Nat} {s : FS} (H : Own.St B w0 w (ARef p s :: Ps)) :
    Calls Try.prog 56 #[ptr p] w fun e w' => e = .returned (.bool (trip s).off) ∧ Own.St B w0 w' (ARef p (trip s) :: Ps) := by
  obtain ⟨vS, vL, vW, H⟩ := ref_open H
  have c3 := (H.cellV 1 rfl 3 rfl).1
  have c4 := (H.cellV 1 rfl 4 rfl).1
  have f3 := (H.cellV 1 rfl 3 rfl).2
  have f4 := (H.cellV 1 rfl 4 rfl).2
  by_cases h0 : s.left = 0
  · have HT : Hid (trip s = { s with off := true, left := -1 }) := by show _ = _; unfold trip; rw [if_pos h0]
    have H2 := Lib.hid (ref_close (s := { s with off := true, left := -1 }) ((H.storeV 1 rfl 3 (.bool true)).storeV 1 rfl 4 (.int .i64 (-1))))
    rw [h0] at c4
    clear H
    go_enter Try.func56, Try.ntmps56
    go_wp2
    go_ret
    rw [HT.out]
    exact ⟨rfl, H2.out⟩
  · have HT : Hid (trip s = s) := by show _ = _; unfold trip; rw [if_neg h0]
    have H2 := Lib.hid (ref_close H)
    have hd : (s.left == 0) = false := by simpa using h0
    clear H
    go_enter Try.func56, Try.ntmps56
    go_wp2
    go_ret
    rw [HT.out]
    exact ⟨rfl, H2.out⟩

theorem done_any {B : Nat} {w0 w : World} {Ps : List Asn} {p : Nat} {s : FS} (H : Own.St B w0 w (ARef p s :: Ps)) (hn : s.n ≤ 100000000) (hl : -1 ≤ s.left ∧ s.left ≤ 9223372036854775807) :
    Calls Try.prog 57 #[ptr p] w fun e w' => e = .returned (errV 0) ∧ Own.St B w0 w' (ARef p (okd s) :: Ps) := by
  obtain ⟨vS, vL, vW, H⟩ := ref_open H
  have c4 := (H.cellV 1 rfl 4 rfl).1
  have c5 := (H.cellV 1 rfl 5 rfl).1
  have f4 := (H.cellV 1 rfl 4 rfl).2
  have f5 := (H.cellV 1 rfl 5 rfl).2
  by_cases h0 : 0 < s.left
  · have H2 : Hid (Own.St B w0 ((w.setCell ⟨p, 5, none⟩ (.int .i64 ((s.n : Int) + 1))).setCell ⟨p, 4, none⟩ (.int .i64 (s.left - 1))) (ARef p (okd s) :: Ps)) := by
      have h := (H.storeV 1 rfl 5 (nuV (s.n + 1))).storeV 1 rfl 4 (.int .i64 (s.left - 1))
      have e : okd s = { s with n := s.n + 1, left := s.left - 1 } := by unfold okd; rw [if_pos h0]
      rw [e]
      exact ref_close (s := { s with n := s.n + 1, left := s.left - 1 }) h
    clear H
    go_enter Try.func57, Try.ntmps57
    go_wp2
    go_ret
    exact ⟨rfl, H2.out⟩
  · have H2 : Hid (Own.St B w0 (w.setCell ⟨p, 5, none⟩ (.int .i64 ((s.n : Int) + 1))) (ARef p (okd s) :: Ps)) := by
      have h := H.storeV 1 rfl 5 (nuV (s.n + 1))
      have e : okd s = { s with n := s.n + 1, left := s.left } := by unfold okd; rw [if_neg h0]
      rw [e]
      exact ref_close (s := { s with n := s.n + 1, left := s.left }) h
    clear H
    go_enter Try.func57, Try.ntmps57
    go_wp2
    go_ret
    exact ⟨rfl, H2.out⟩
end Fla
end Go.Proofs.Ytepllhfofhehaaa
