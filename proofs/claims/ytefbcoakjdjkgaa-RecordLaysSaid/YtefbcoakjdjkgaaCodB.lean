/- Contracts of package codec: NewWriter, Num, Raw, Blob, Out. -/
import Derived.Test.YtefbcoakjdjkgaaCodA
namespace Go.Proofs.Ytefbcoakjdjkgaa
open Go.RowKit Go.Own
namespace Cod

def NewWDone (room : Int) (w : World) (e : Ending) (w' : World) : Prop :=
  ∃ p S, e = .returned (.pointer (some ⟨p, 0, none⟩)) ∧ Wr w' S p ⟨max room 0, [], 0⟩ ∧ Step (fun _ => False) S w w'

theorem newWriter_any (room : Int) (w : World) (h1 : room ≤ 9223372036854775807) :
    Calls Try.prog 19 #[.int .i64 room] w (NewWDone room w) := by
  have key : ∀ r : Int, max room 0 = r → 0 ≤ r → r ≤ 9223372036854775807 → NewWDone room w (.returned (.pointer (some ⟨w.heap.size, 0, none⟩))) (w.alloc (.cells #[.int .i64 r, .slice none 0 0, .int .i64 0] 60)) := by
    intro r hr h0 hm
    refine ⟨_, fun k => k = w.heap.size, rfl, ?_, ((Step.refl (fun _ => False) w).alloc _).to (fun k hk => Or.inr (Nat.le_of_eq hk.symm))⟩
    rw [hr]
    exact ⟨.slice none 0 0, fun _ => False, heap_alloc_new w _, Row.nil _ _ _, fun h => h, fun k => by simp, h0, hm⟩
  have K := Lib.hid key
  clear key
  go_enter Try.func19, Try.ntmps19
  go_wp2
  all_goals go_ret
  · exact K.out 0 (by omega) (by omega) (by omega)
  · exact K.out room (by omega) (by omega) h1

set_option maxHeartbeats 400000 in
theorem num_any (S : Nat → Prop) (p : Nat) (s : WS) (n : Nat) (many : Int) (w : World) (hW : Wr w S p s) (hxs : s.xs.length ≤ 100000000) :
    Calls Try.prog 20 #[.pointer (some ⟨p, 0, none⟩), .int .u64 n, .int .i64 many] w (WDone S p (s.num n many) w) := by
  have hW0 := Lib.hid hW
  obtain ⟨v, T, hb, hrow, hT, hS, hr0, hr1⟩ := hW
  have h2 := cell_of_block (i := 2) hb rfl
  have f2 := frozen_of_block (i := 2) hb
  obtain ⟨room, xs, err⟩ := s
  simp only at h2 hr0 hr1 hxs
  clear hb hrow hT hS
  by_cases he : err = 0
  · subst he
    by_cases h0 : many < 0
    · have hfin : Hid (WS.num ⟨room, xs, 0⟩ n many = ⟨room, xs, 1⟩) := by simp [Hid, WS.num, h0]
      go_enter Try.func20, Try.ntmps20
      go_wp2
      go_end0
      rw [hfin.out]
      exact ⟨rfl, hW0.out.fault 0 1⟩
    · by_cases h8 : 8 < many
      · have hfin : Hid (WS.num ⟨room, xs, 0⟩ n many = ⟨room, xs, 1⟩) := by simp [Hid, WS.num, h8]
        go_enter Try.func20, Try.ntmps20
        go_wp2
        go_end0
        rw [hfin.out]
        exact ⟨rfl, hW0.out.fault 0 1⟩
      · obtain ⟨k, rfl⟩ := Int.eq_ofNat_of_zero_le (show 0 ≤ many by omega)
        by_cases hf : (k : Int) ≤ room - xs.length
        · have hfin : Hid (WS.num ⟨room, xs, 0⟩ n k = ⟨room, xs ++ le n k, 0⟩) := by
            simp only [Hid, WS.num, WS.lay]
            rw [if_neg (by simp), if_neg (by omega), if_neg (by simp), if_neg (by rw [Int.toNat_natCast, le_len]; omega), Int.toNat_natCast]
          go_enter Try.func20, Try.ntmps20
          go_wp2_with (fail)
          refine (fits_yes S p ⟨room, xs, 0⟩ k w hW0.out (by simp; omega) (by omega) hf).mono ?_
          rintro e w1 ⟨rfl, S1, hW1, hs1⟩
          have HW1 := Lib.hid hW1
          clear hW1
          go_wp2_with (fail)
          refine (putNum_any S1 p ⟨room, xs, 0⟩ n k w1 HW1.out (by omega) hxs).mono ?_
          rintro e w2 ⟨rfl, S2, hW2, hs2⟩
          have HW2 := Lib.hid hW2
          clear hW2
          go_wp2_with (fail)
          go_end0
          rw [hfin.out]
          exact ⟨rfl, S2, HW2.out, hs1.trans hs2⟩
        · have hfin : Hid (WS.num ⟨room, xs, 0⟩ n k = ⟨room, xs, 4⟩) := by
            simp only [Hid, WS.num, WS.lay]
            rw [if_neg (by simp), if_neg (by omega), if_neg (by simp), if_pos (by rw [Int.toNat_natCast, le_len]; omega)]
          go_enter Try.func20, Try.ntmps20
          go_wp2_with (fail)
          refine (fits_no S p ⟨room, xs, 0⟩ k w hW0.out (by simp; omega) (by omega) (by show room - xs.length < _; omega)).mono ?_
          rintro e w1 ⟨rfl, S1, hW1, hs1⟩
          have HW1 := Lib.hid hW1
          clear hW1
          go_wp2_with (fail)
          go_end0
          rw [hfin.out]
          exact ⟨rfl, S1, HW1.out, hs1⟩
  · have hfin : Hid (WS.num ⟨room, xs, err⟩ n many = ⟨room, xs, err⟩) := by simp [Hid, WS.num, he]
    have he' : (err == 0) = false := by simp [he]
    go_enter Try.func20, Try.ntmps20
    go_wp2
    go_end0
    rw [hfin.out]
    exact ⟨rfl, hW0.out.drewN 0⟩

set_option maxHeartbeats 400000 in
theorem raw_any (S D : Nat → Prop) (p : Nat) (s : WS) (ao : Option Addr) (bs : List UInt8) (cap : Nat) (w : World) (hW : Wr w S p s) (hV : View w D ao bs) (hD : Dis D S) (hbs : bs.length ≤ 100000000) (hxs : s.xs.length ≤ 100000000) :
    Calls Try.prog 22 #[.pointer (some ⟨p, 0, none⟩), .slice ao bs.length cap] w (WDone S p (s.lay bs) w) := by
  have hW0 := Lib.hid hW
  have hV0 := Lib.hid hV
  obtain ⟨v, T, hb, hrow, hT, hS, hr0, hr1⟩ := hW
  have h2 := cell_of_block (i := 2) hb rfl
  obtain ⟨room, xs, err⟩ := s
  simp only at h2 hr0 hr1 hxs
  clear hb hrow hT hV
  by_cases he : err = 0
  · subst he
    by_cases hf : (bs.length : Int) ≤ room - xs.length
    · have hfin : Hid (WS.lay ⟨room, xs, 0⟩ bs = ⟨room, xs ++ bs, 0⟩) := by
        simp only [Hid, WS.lay]
        rw [if_neg (by simp), if_neg (by omega)]
      go_enter Try.func22, Try.ntmps22
      go_wp2_with (fail)
      refine (fits_yes S p ⟨room, xs, 0⟩ bs.length w hW0.out (by simp; omega) (by omega) hf).mono ?_
      rintro e w1 ⟨rfl, S1, hW1, hs1⟩
      have HW1 := Lib.hid hW1
      clear hW1
      go_wp2_with (fail)
      refine (putBytes_any S1 _ p ⟨room, xs, 0⟩ ao bs cap w1 HW1.out (hV0.out.live.step hs1 (fun k hk => hD k hk.1)) (hD.step hs1) hbs hxs).mono ?_
      rintro e w2 ⟨rfl, S2, hW2, hs2⟩
      have HW2 := Lib.hid hW2
      clear hW2
      go_wp2_with (fail)
      go_end0
      rw [hfin.out]
      exact ⟨rfl, S2, HW2.out, hs1.trans hs2⟩
    · have hfin : Hid (WS.lay ⟨room, xs, 0⟩ bs = ⟨room, xs, 4⟩) := by
        simp only [Hid, WS.lay]
        rw [if_neg (by simp), if_pos (by omega)]
      go_enter Try.func22, Try.ntmps22
      go_wp2_with (fail)
      refine (fits_no S p ⟨room, xs, 0⟩ bs.length w hW0.out (by simp; omega) (by omega) (by show room - xs.length < _; omega)).mono ?_
      rintro e w1 ⟨rfl, S1, hW1, hs1⟩
      have HW1 := Lib.hid hW1
      clear hW1
      go_wp2_with (fail)
      go_end0
      rw [hfin.out]
      exact ⟨rfl, S1, HW1.out, hs1⟩
  · have hfin : Hid (WS.lay ⟨room, xs, err⟩ bs = ⟨room, xs, err⟩) := by simp [Hid, WS.lay, he]
    have he' : (err == 0) = false := by simp [he]
    go_enter Try.func22, Try.ntmps22
    go_wp2
    go_end0
    rw [hfin.out]
    exact ⟨rfl, hW0.out.drewN 0⟩

theorem WDone.seq {S S1 : Nat → Prop} {p : Nat} {s1 s2 : WS} {w w1 w2 : World} (h : Step S S1 w w1) (g : WrTo S1 p s2 w1 w2) : WrTo S p s2 w w2 := by
  obtain ⟨S2, h2, h3⟩ := g
  exact ⟨S2, h2, h.trans h3⟩

set_option maxHeartbeats 400000 in
theorem blob_any (S D : Nat → Prop) (p : Nat) (s : WS) (ao : Option Addr) (bs : List UInt8) (cap : Nat) (w : World) (hW : Wr w S p s) (hV : View w D ao bs) (hD : Dis D S) (hbs : bs.length ≤ 90000000) (hxs : s.xs.length ≤ 90000000) :
    Calls Try.prog 23 #[.pointer (some ⟨p, 0, none⟩), .slice ao bs.length cap] w (WDone S p (s.blob bs) w) := by
  have hW0 := Lib.hid hW
  have hV0 := Lib.hid hV
  obtain ⟨v, T, hb, hrow, hT, hS, hr0, hr1⟩ := hW
  have h2 := cell_of_block (i := 2) hb rfl
  have f2 := frozen_of_block (i := 2) hb
  obtain ⟨room, xs, err⟩ := s
  simp only at h2 hr0 hr1 hxs
  clear hb hrow hT hV
  by_cases he : err = 0
  · subst he
    by_cases hlong : 65535 < bs.length
    · have hfin : Hid (WS.blob ⟨room, xs, 0⟩ bs = ⟨room, xs, 4⟩) := by
        simp only [Hid, WS.blob]
        rw [if_neg (by simp), if_pos hlong]
      go_enter Try.func23, Try.ntmps23
      go_wp2
      go_end0
      rw [hfin.out]
      exact ⟨rfl, hW0.out.fault 0 4⟩
    · by_cases hf : (2 : Int) + bs.length ≤ room - xs.length
      · have hfin : Hid (WS.blob ⟨room, xs, 0⟩ bs = ⟨room, (xs ++ le bs.length 2) ++ bs, 0⟩) := by
          simp only [Hid, WS.blob, WS.lay]
          rw [if_neg (by simp), if_neg hlong, if_neg (by simp), if_neg (by rw [List.length_append, le_len]; omega), List.append_assoc]
        go_enter Try.func23, Try.ntmps23
        go_wp2_with (fail)
        refine (fits_yes S p ⟨room, xs, 0⟩ (2 + bs.length) w hW0.out (by simp; omega) (by omega) hf).mono ?_
        rintro e w1 ⟨rfl, S1, hW1, hs1⟩
        have HW1 := Lib.hid hW1
        clear hW1
        go_wp2_with (fail)
        refine (putNum_any S1 p ⟨room, xs, 0⟩ bs.length 2 w1 HW1.out (by omega) (by simp; omega)).mono ?_
        rintro e w2 ⟨rfl, S2, hW2, hs2⟩
        have HW2 := Lib.hid hW2
        clear hW2
        go_wp2_with (fail)
        refine (putBytes_any S2 _ p ⟨room, xs ++ le bs.length 2, 0⟩ ao bs cap w2 HW2.out (hV0.out.live.step (hs1.trans hs2) (fun k hk => hD k hk.1)) (hD.step (hs1.trans hs2)) (by omega) (by simp [le_len]; omega)).mono ?_
        rintro e w3 ⟨rfl, S3, hW3, hs3⟩
        have HW3 := Lib.hid hW3
        clear hW3
        go_wp2_with (fail)
        go_end0
        rw [hfin.out]
        exact ⟨rfl, S3, HW3.out, (hs1.trans hs2).trans hs3⟩
      · have hfin : Hid (WS.blob ⟨room, xs, 0⟩ bs = ⟨room, xs, 4⟩) := by
          simp only [Hid, WS.blob, WS.lay]
          rw [if_neg (by simp), if_neg hlong, if_neg (by simp), if_pos (by rw [List.length_append, le_len]; omega)]
        go_enter Try.func23, Try.ntmps23
        go_wp2_with (fail)
        refine (fits_no S p ⟨room, xs, 0⟩ (2 + bs.length) w hW0.out (by simp; omega) (by omega) (by show room - xs.length < _; omega)).mono ?_
        rintro e w1 ⟨rfl, S1, hW1, hs1⟩
        have HW1 := Lib.hid hW1
        clear hW1
        go_wp2_with (fail)
        go_end0
        rw [hfin.out]
        exact ⟨rfl, S1, HW1.out, hs1⟩
  · have hfin : Hid (WS.blob ⟨room, xs, err⟩ bs = ⟨room, xs, err⟩) := by simp [Hid, WS.blob, he]
    have he' : (err == 0) = false := by simp [he]
    go_enter Try.func23, Try.ntmps23
    go_wp2
    go_end0
    rw [hfin.out]
    exact ⟨rfl, hW0.out.drewN 0⟩

/-- what Out leaves: new memory with what was written; the writer as it was -/
def OutDone (S : Nat → Prop) (p : Nat) (s : WS) (w : World) (e : Ending) (w' : World) : Prop :=
  ∃ ao cap T, e = .returned (.tuple #[.slice ao s.xs.length cap, .int .i64 s.err]) ∧ Row w' 5 1 T (.slice ao s.xs.length cap) s.xs.length (s.xs.map byteV) ∧ Wr w' S p s ∧ Step (fun _ => False) T w w'

set_option maxHeartbeats 400000 in
theorem out_any (S : Nat → Prop) (p : Nat) (s : WS) (w : World) (hW : Wr w S p s) (hxs : s.xs.length ≤ 1000000000) :
    Calls Try.prog 24 #[.pointer (some ⟨p, 0, none⟩)] w (OutDone S p s w) := by
  have hW0 := Lib.hid hW
  obtain ⟨v, T, hb, hrow, hT, hS, hr0, hr1⟩ := hW
  obtain ⟨ao, cap, rfl, hc1, hc2, -⟩ := hrow.form
  have h1 := cell_of_block (i := 1) hb rfl
  have h2 := cell_of_block (i := 2) hb rfl
  have hp := lt_of_block hb
  have HB := Lib.hid hb
  have HR := Lib.hid hrow
  clear hb hrow hS
  go_enter Try.func24, Try.ntmps24
  go_wp2
  go_region_law (go_simp; go_at_call 39; refine (clone_any T ao s.xs cap w.drew HR.out.drew.view hxs).mono ?_; rintro e w1 ⟨ao1, cap1, T1, rfl, hr1, hs1⟩; have h2' : w1.cell? ⟨p, 2, none⟩ = some (.int .i64 s.err) := (World.cell?_of_block (w := w) (hs1.block p hp (fun h => h))).trans h2)
  all_goals
    have hg : Step (fun _ => False) T1 w w1 := ((Step.refl (fun _ => False) w).drew).trans hs1
    have HG := Lib.hid hg
    clear hg
    go_wp2
    go_ret2
    exact ⟨ao1, cap1, T1, rfl, hr1, hW0.out.keep HG.out (fun _ _ h => h), HG.out⟩

end Cod
end Go.Proofs.Ytefbcoakjdjkgaa
