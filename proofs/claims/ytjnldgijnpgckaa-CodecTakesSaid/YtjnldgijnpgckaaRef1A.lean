/- Contracts of the document's own answer for layer 1: the writer's methods. -/
import Derived.Test.YtjnldgijnpgckaaRef1
namespace Go.Proofs.Ytjnldgijnpgckaa
open Go.RowKit Go.Own
namespace Cod

theorem Step.pre {S S' T : Nat → Prop} {w w1 w2 : World} (h : Step (fun _ => False) T w w1) (g : Step S S' w1 w2) : Step S S' w w2 :=
  ⟨g.os.trans h.os, g.tape.trans h.tape, g.output.trans h.output, Nat.le_trans h.size g.size, fun k hk hs => (g.block k (Nat.lt_of_lt_of_le hk h.size) hs).trans (h.block k hk (fun h => h)), fun k hk => (g.new k hk).imp id (Nat.le_trans h.size)⟩

theorem row_none {w : World} {e : TypeId} {size : Nat} {T : Nat → Prop} {ao : Option Addr} {n cap : Nat} {xs : List Value} (h : Row w e size T (.slice ao n cap) n xs) : ao = none → cap = 0 := by
  obtain ⟨ao', cap', hv, _, _, h0, _⟩ := h.form
  simp only [Value.slice.injEq, true_and] at hv
  obtain ⟨rfl, rfl⟩ := hv
  exact fun g => (h0 g).2.1

set_option maxHeartbeats 800000 in
theorem refW_num (S : Nat → Prop) (p : Nat) (s : WS) (n : Nat) (many : Int) (w : World) (hW : RW w S p s) (hn : n < 18446744073709551616) (hxs : s.xs.length ≤ 90000000) :
    Calls Try.prog 13 #[.pointer (some ⟨p, 0, none⟩), .int .u64 n, .int .i64 many] w (RWDone S p (s.num n many) w) := by
  have hW0 := Lib.hid hW
  obtain ⟨v, room, T, hb, hrow, hT, hS, hr0, hr1⟩ := hW
  have h2 := cell_of_block (i := 2) hb rfl
  have f2 := frozen_of_block (i := 2) hb
  have HN := Lib.hid hn
  obtain ⟨sroom, xs, err⟩ := s
  simp only at h2 hxs
  clear hb hrow hT hS hr0 hr1 hn
  by_cases he : err = 0
  · subst he
    by_cases hneg : many < 0
    · have hfin : Hid (WS.num ⟨sroom, xs, 0⟩ n many = ⟨sroom, xs, 1⟩) := by simp [Hid, WS.num, hneg]
      go_enter Try.func13, Try.ntmps13
      go_wp2
      go_end0
      rw [hfin.out]
      exact ⟨rfl, hW0.out.fault 0 1⟩
    · by_cases hbig : 8 < many
      · have hfin : Hid (WS.num ⟨sroom, xs, 0⟩ n many = ⟨sroom, xs, 1⟩) := by simp [Hid, WS.num, hbig]
        go_enter Try.func13, Try.ntmps13
        go_wp2
        go_end0
        rw [hfin.out]
        exact ⟨rfl, hW0.out.fault 0 1⟩
      · obtain ⟨k, rfl⟩ := Int.eq_ofNat_of_zero_le (show 0 ≤ many by omega)
        have hfin : Hid (WS.num ⟨sroom, xs, 0⟩ n k = WS.lay ⟨sroom, xs, 0⟩ (le n k)) := by
          simp only [Hid, WS.num]
          rw [if_neg (by simp), if_neg (by omega), Int.toNat_natCast]
        go_enter Try.func13, Try.ntmps13
        go_wp2_with (fail)
        refine (refNum_any n k w (by omega) HN.out).mono ?_
        rintro e w1 ⟨ao, cap, T1, rfl, hr, hs⟩
        have HR := Lib.hid hr
        clear hr
        go_wp2_with (fail)
        have hl := rlay_any S T1 p ⟨sroom, xs, 0⟩ ao (le n k) cap w1 (hW0.out.keep hs (fun _ _ h => h)) (Row.view HR.out) (row_none HR.out) (by rw [le_len]; omega) (by simp only; omega)
        rw [le_len] at hl
        refine hl.mono ?_
        rintro e w2 ⟨rfl, S2, hW2, hs2⟩
        have HW2 := Lib.hid hW2
        clear hl hW2
        go_wp2_with (fail)
        go_end0
        rw [hfin.out]
        exact ⟨rfl, S2, HW2.out, Step.pre hs hs2⟩
  · have hfin : Hid (WS.num ⟨sroom, xs, err⟩ n many = ⟨sroom, xs, err⟩) := by simp [Hid, WS.num, he]
    have he' : (err == 0) = false := by simp [he]
    go_enter Try.func13, Try.ntmps13
    go_wp2
    go_end0
    rw [hfin.out]
    exact ⟨rfl, hW0.out.same 0⟩

theorem refW_raw (S D : Nat → Prop) (p : Nat) (s : WS) (ao : Option Addr) (bs : List UInt8) (cap : Nat) (w : World) (hW : RW w S p s) (hV : View w D ao bs) (hcap : ao = none → cap = 0) (hbs : bs.length ≤ 100000000) (hxs : s.xs.length ≤ 100000000) :
    Calls Try.prog 15 #[.pointer (some ⟨p, 0, none⟩), .slice ao bs.length cap] w (RWDone S p (s.lay bs) w) := by
  go_enter Try.func15, Try.ntmps15
  go_wp2_with (fail)
  refine (rlay_any S D p s ao bs cap w hW hV hcap hbs hxs).mono ?_
  rintro e w1 ⟨rfl, h⟩
  have H := Lib.hid h
  clear h
  go_wp2_with (fail)
  go_end0
  exact ⟨rfl, H.out⟩

set_option maxHeartbeats 800000 in
/-- behind its first test: the bytes with their number are laid -/
theorem refW_blob (S D : Nat → Prop) (p : Nat) (s : WS) (ao : Option Addr) (bs : List UInt8) (cap : Nat) (w : World) (hW : RW w S p s) (hV : View w D ao bs) (hD : Dis D S) (hcap : ao = none → cap = 0) (hbs : bs.length ≤ 90000000) (hxs : s.xs.length ≤ 90000000) :
    Calls Try.prog 17 #[.pointer (some ⟨p, 0, none⟩), .slice ao bs.length cap] w (RWDone S p (s.blob bs) w) := by
  obtain ⟨i0, hi, hz0, hz1, hz2⟩ := info_parts Try.infoU8
  have hnone : Hid (ao = none → bs.length = 0 ∧ cap = 0) := by
    intro h
    refine ⟨?_, hcap h⟩
    rcases hV with h' | ⟨b, o, h', _⟩
    · rw [h']; rfl
    · rw [h] at h'; cases h'
  have hvw : ∀ w1 S1, Step S S1 w w1 → ∀ a, ao = some a → ∀ j u, (bs.map byteV)[j]? = some u → w1.cell? (a.add j) = some u := fun w1 S1 hs => view_cells (hV.step hs hD)
  have HVW := Lib.hid hvw
  clear hvw
  have hW0 := Lib.hid hW
  obtain ⟨v, room, T, hb, hrow, hT, hS, hr0, hr1⟩ := hW
  have h2 := cell_of_block (i := 2) hb rfl
  have f2 := frozen_of_block (i := 2) hb
  obtain ⟨sroom, xs, err⟩ := s
  simp only at h2 hxs
  clear hb hrow hT hS hr0 hr1 hV hcap
  have key : ∀ (wa : World) (s' : WS) (Sa : Nat → Prop), RW wa Sa p s' → s'.xs = xs → Step S Sa w wa → ∀ w1 w2 T1 T2 aa ca, Step (fun _ => False) T1 wa w1 → Step T1 T2 w1 w2 → Row w2 5 1 T2 (.slice aa (2 + bs.length) ca) (2 + bs.length) ((le bs.length 2 ++ bs).map byteV) →
      Calls Try.prog 31 #[.pointer (some ⟨p, 0, none⟩), .slice aa (2 + bs.length) ca] w2 fun e w' => e = .returned (.tuple #[]) ∧ RWTo S p (s'.lay (le bs.length 2 ++ bs)) w w' := by
    intro wa s' Sa hWa hxa hsa w1 w2 T1 T2 aa ca hs1 hs2 hr
    have hd : Step (fun _ => False) T2 wa w2 := ⟨hs2.os.trans hs1.os, hs2.tape.trans hs1.tape, hs2.output.trans hs1.output, Nat.le_trans hs1.size hs2.size,
      fun k hk hf => (hs2.block k (Nat.lt_of_lt_of_le hk hs1.size) (fun ht => (hs1.new k ht).elim (fun h => h) (fun h => by omega))).trans (hs1.block k hk hf), fun k hk => (hs2.new k hk).elim (fun h => (hs1.new k h)) (fun h => .inr (Nat.le_trans hs1.size h))⟩
    have hl := rlay_any Sa T2 p s' aa (le bs.length 2 ++ bs) ca w2 (hWa.keep hd (fun _ _ h => h)) (Row.view hr) (row_none hr) (by rw [List.length_append, le_len]; omega) (by rw [hxa]; omega)
    rw [List.length_append, le_len] at hl
    refine hl.mono ?_
    rintro e w3 ⟨rfl, S3, hW3, hs3⟩
    exact ⟨rfl, S3, hW3, hsa.trans (Step.pre hd hs3)⟩
  have KEY := Lib.hid key
  clear key
  by_cases hlong : err = 0 ∧ 65535 < bs.length
  · obtain ⟨rfl, hl⟩ := hlong
    have hfin : Hid (WS.blob ⟨sroom, xs, 0⟩ bs = WS.lay ⟨sroom, xs, 4⟩ (le bs.length 2 ++ bs)) := by
      simp only [Hid, WS.blob, WS.lay]
      rw [if_neg (by simp), if_pos hl, if_pos (by simp)]
    obtain ⟨Sa, hWa, hsa⟩ := hW0.out.fault 0 4
    have HWA := Lib.hid hWa
    have HSA := Lib.hid hsa
    clear hWa hsa
    go_enter Try.func17, Try.ntmps17
    go_wp2_with (fail)
    refine (refNum_any bs.length 2 _ (by omega) (by omega)).mono ?_
    rintro e w1 ⟨aa, ca, T1, rfl, hr, hs⟩
    have HR := Lib.hid hr
    have HS1 := Lib.hid hs
    have hcw := HVW.out w1 _ (HSA.out.trans (Step.pre hs (Step.refl _ _)))
    have HCW := Lib.hid hcw
    clear hr hs hcw
    go_wp2_with (at_builtin; refine wpList_append_row rfl (.tmp 22) (.tmp 23) 27 rfl 5 i0 (.int .u8 0) 1 1 Try.underlying27 hi hz0 hz1 hz2 rfl (by decide) (.slice aa 2 ca) 2 ((le bs.length 2).map byteV) rfl HR.out ao bs.length cap (bs.map byteV) rfl hnone.out (by rw [List.length_map, Nat.mul_one]) HCW.out (byteV_one _) (by unfold maxLen; omega) (by omega) ?_; intro v' w2 T2 hr2 hs2; obtain ⟨ab, cb, rfl, -⟩ := hr2.form; have HR2 := Lib.hid hr2; have HS2 := Lib.hid hs2; clear hr2 hs2)
    refine (KEY.out _ _ _ HWA.out rfl HSA.out w1 w2 T1 T2 ab cb HS1.out HS2.out (by rw [List.map_append]; exact HR2.out)).mono ?_
    rintro e w3 ⟨rfl, h3⟩
    have H3 := Lib.hid h3
    clear h3
    go_wp2_with (fail)
    go_end0
    rw [hfin.out]
    exact ⟨rfl, H3.out⟩
  · have hfin : Hid (WS.blob ⟨sroom, xs, err⟩ bs = WS.lay ⟨sroom, xs, err⟩ (le bs.length 2 ++ bs)) := by
      simp only [Hid, WS.blob]
      by_cases he : err = 0
      · rw [if_neg (by simpa using he), if_neg (fun h => hlong ⟨he, h⟩)]
      · rw [if_pos he]; unfold WS.lay; rw [if_pos he]
    have HWA := hW0
    have HSA := Lib.hid (Step.refl S w)
    by_cases he : err = 0
    · subst he
      have hl : bs.length ≤ 65535 := by
        rcases Nat.lt_or_ge 65535 bs.length with h | h
        · exact absurd ⟨rfl, h⟩ hlong
        · exact h
      clear hlong
      go_enter Try.func17, Try.ntmps17
      go_wp2_with (fail)
      refine (refNum_any bs.length 2 _ (by omega) (by omega)).mono ?_
      rintro e w1 ⟨aa, ca, T1, rfl, hr, hs⟩
      have HR := Lib.hid hr
      have HS1 := Lib.hid hs
      have hcw := HVW.out w1 _ (HSA.out.trans (Step.pre hs (Step.refl _ _)))
      have HCW := Lib.hid hcw
      clear hr hs hcw
      go_wp2_with (at_builtin; refine wpList_append_row rfl (.tmp 22) (.tmp 23) 27 rfl 5 i0 (.int .u8 0) 1 1 Try.underlying27 hi hz0 hz1 hz2 rfl (by decide) (.slice aa 2 ca) 2 ((le bs.length 2).map byteV) rfl HR.out ao bs.length cap (bs.map byteV) rfl hnone.out (by rw [List.length_map, Nat.mul_one]) HCW.out (byteV_one _) (by unfold maxLen; omega) (by omega) ?_; intro v' w2 T2 hr2 hs2; obtain ⟨ab, cb, rfl, -⟩ := hr2.form; have HR2 := Lib.hid hr2; have HS2 := Lib.hid hs2; clear hr2 hs2)
      refine (KEY.out _ _ _ HWA.out rfl HSA.out w1 w2 T1 T2 ab cb HS1.out HS2.out (by rw [List.map_append]; exact HR2.out)).mono ?_
      rintro e w3 ⟨rfl, h3⟩
      have H3 := Lib.hid h3
      clear h3
      go_wp2_with (fail)
      go_end0
      rw [hfin.out]
      exact ⟨rfl, H3.out⟩
    · have he' : (err == 0) = false := by simp [he]
      clear hlong
      go_enter Try.func17, Try.ntmps17
      go_wp2_with (fail)
      refine (refNum_any bs.length 2 _ (by omega) (by omega)).mono ?_
      rintro e w1 ⟨aa, ca, T1, rfl, hr, hs⟩
      have HR := Lib.hid hr
      have HS1 := Lib.hid hs
      have hcw := HVW.out w1 _ (HSA.out.trans (Step.pre hs (Step.refl _ _)))
      have HCW := Lib.hid hcw
      clear hr hs hcw
      go_wp2_with (at_builtin; refine wpList_append_row rfl (.tmp 22) (.tmp 23) 27 rfl 5 i0 (.int .u8 0) 1 1 Try.underlying27 hi hz0 hz1 hz2 rfl (by decide) (.slice aa 2 ca) 2 ((le bs.length 2).map byteV) rfl HR.out ao bs.length cap (bs.map byteV) rfl hnone.out (by rw [List.length_map, Nat.mul_one]) HCW.out (byteV_one _) (by unfold maxLen; omega) (by omega) ?_; intro v' w2 T2 hr2 hs2; obtain ⟨ab, cb, rfl, -⟩ := hr2.form; have HR2 := Lib.hid hr2; have HS2 := Lib.hid hs2; clear hr2 hs2)
      refine (KEY.out _ _ _ HWA.out rfl HSA.out w1 w2 T1 T2 ab cb HS1.out HS2.out (by rw [List.map_append]; exact HR2.out)).mono ?_
      rintro e w3 ⟨rfl, h3⟩
      have H3 := Lib.hid h3
      clear h3
      go_wp2_with (fail)
      go_end0
      rw [hfin.out]
      exact ⟨rfl, H3.out⟩

end Cod
end Go.Proofs.Ytjnldgijnpgckaa
