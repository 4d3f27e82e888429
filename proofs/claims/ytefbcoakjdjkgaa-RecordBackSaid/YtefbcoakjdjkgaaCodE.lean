/- Contracts of package codec: the reader's Raw and Blob. -/
import Derived.Test.YtefbcoakjdjkgaaCodD
namespace Go.Proofs.Ytefbcoakjdjkgaa
open Go.RowKit Go.Own
namespace Cod

/-- what a call leaves that answers bytes of a reader: the reader is so, the bytes are new memory -/
def RawDone (S : Nat → Prop) (p : Nat) (x : List UInt8 × RS) (w : World) (e : Ending) (w' : World) : Prop :=
  ∃ ao cap T, e = .returned (.slice ao x.1.length cap) ∧ Row w' 5 1 T (.slice ao x.1.length cap) x.1.length (x.1.map byteV) ∧ Rd w' S p x.2 ∧ Step S S w w' ∧ ∀ k, T k → w.heap.size ≤ k

theorem RawDone.empty {S : Nat → Prop} {p : Nat} {r : RS} {w w' : World} (h : RdTo S p r w w') : RawDone S p ([], r) w (.returned (.slice none 0 0)) w' :=
  ⟨none, 0, fun _ => False, rfl, Row.nil _ _ _, h.1, h.2, fun _ h => h.elim⟩

theorem RawDone.mk' {S T : Nat → Prop} {p : Nat} {r : RS} {l : List UInt8} {n : Nat} {w w1 w2 : World} {ao : Option Addr} {cap : Nat} (hn : l.length = n) (h : RdTo S p r w w1) (hr : Row w2 5 1 T (.slice ao n cap) n (l.map byteV)) (hs : Step (fun _ => False) T w1 w2) :
    RawDone S p (l, r) w (.returned (.slice ao n cap)) w2 := by
  subst hn
  refine ⟨ao, cap, T, rfl, hr, h.1.keep hs (fun _ _ h => h), ?_, fun k hk => (hs.new k hk).elim (fun h => h.elim) (fun g => Nat.le_trans h.2.size g)⟩
  have g := h.2
  exact ⟨hs.os.trans g.os, hs.tape.trans g.tape, hs.output.trans g.output, Nat.le_trans g.size hs.size, fun k hk hS => (hs.block k (by have := g.size; omega) (fun h => h)).trans (g.block k hk hS), fun k hk => .inl hk⟩

set_option maxHeartbeats 400000 in
theorem rraw_any (S : Nat → Prop) (p : Nat) (r : RS) (n : Int) (w : World) (hR : Rd w S p r) (hl : r.l.length ≤ 1000000000) :
    Calls Try.prog 29 #[.pointer (some ⟨p, 0, none⟩), .int .i64 n] w (RawDone S p (r.raw n) w) := by
  have hR0 := Lib.hid hR
  obtain ⟨ao, cap, D, hb, hV, hD, hS, hlt, hlc, hm, hnone, hspot⟩ := hR
  obtain ⟨l, err⟩ := r
  have h0 := cell_of_block (i := 0) hb rfl
  have h1 := cell_of_block (i := 1) hb rfl
  have f1 := frozen_of_block (i := 1) hb
  clear hb hV hD hS hlt hlc hm hnone hspot
  simp only at h0 h1 hl
  by_cases he : err = 0
  · subst he
    by_cases hneg : n < 0
    · have hfin : Hid (RS.raw ⟨l, 0⟩ n = ([], ⟨l, 1⟩)) := by simp [Hid, RS.raw, hneg]
      go_enter Try.func29, Try.ntmps29
      go_wp2
      go_ret
      rw [hfin.out]
      exact RawDone.empty (hR0.out.fault 0 1)
    · obtain ⟨k, rfl⟩ := Int.eq_ofNat_of_zero_le (show 0 ≤ n by omega)
      by_cases hs : (l.length : Int) < k
      · have hfin : Hid (RS.raw ⟨l, 0⟩ k = ([], ⟨l, 10⟩)) := by
          simp only [Hid, RS.raw]
          rw [if_neg (by simp), if_neg hneg, if_pos hs]
        go_enter Try.func29, Try.ntmps29
        go_wp2
        go_ret
        rw [hfin.out]
        exact RawDone.empty (hR0.out.fault 0 10)
      · have hfin : Hid (RS.raw ⟨l, 0⟩ k = (l.take k, ⟨l.drop k, 0⟩)) := by
          simp only [Hid, RS.raw]
          rw [if_neg (by simp), if_neg hneg, if_neg hs, Int.toNat_natCast]
        go_enter Try.func29, Try.ntmps29
        go_wp2_with (fail)
        refine (take_any S p ⟨l, 0⟩ k w hR0.out (by simp; omega)).mono ?_
        rintro e w1 ⟨ao1, cap1, D1, rfl, hV1, hD1, hR1⟩
        have HV1 := Lib.hid hV1
        have HR1 := Lib.hid hR1
        clear hV1 hR1
        go_wp2_with (fail)
        have hlen : (l.take k).length = k := by rw [List.length_take]; omega
        have hcl := clone_any D1 ao1 (l.take k) cap1 w1 HV1.out (by omega)
        unfold CloneDone at hcl
        rw [hlen] at hcl
        have HL := Lib.hid hlen
        refine hcl.mono ?_
        rintro e w2 ⟨ao2, cap2, T2, rfl, hr2, hs2⟩
        have HR2 := Lib.hid hr2
        clear hcl hr2 hlen
        go_wp2
        go_ret
        rw [hfin.out]
        exact RawDone.mk' HL.out HR1.out HR2.out hs2
  · have hfin : Hid (RS.raw ⟨l, err⟩ n = ([], ⟨l, err⟩)) := by simp [Hid, RS.raw, he]
    have he' : (err == 0) = false := by simp [he]
    go_enter Try.func29, Try.ntmps29
    go_wp2
    go_ret
    rw [hfin.out]
    exact RawDone.empty hR0.out.same

set_option maxHeartbeats 400000 in
theorem blobSize_any (D : Nat → Prop) (ao : Option Addr) (l : List UInt8) (cap : Nat) (most : Int) (w : World) (hV : View w D ao l) (hl : l.length ≤ 1000000000) (hc : l.length ≤ cap) (hm : cap ≤ maxLen) (hmost : most ≤ 9223372036854775807) :
    Calls Try.prog 42 #[.slice ao l.length cap, .int .i64 most] w fun e w' => e = .returned (.tuple #[.int .i64 (blobSz l most).1, .int .i64 (blobSz l most).2]) ∧ w = w' := by
  unfold maxLen at hm
  by_cases h2 : l.length < 2
  · have hfin : Hid (blobSz l most = (0, 10)) := by simp [Hid, blobSz, h2]
    go_enter Try.func42, Try.ntmps42
    go_wp2
    go_ret2
    rw [hfin.out]
    exact ⟨rfl, rfl⟩
  · obtain ⟨b, o, rfl⟩ : ∃ b o, ao = some ⟨b, o, none⟩ := by
      rcases hV with rfl | ⟨b, o, h, _⟩
      · simp at h2
      · exact ⟨b, o, h⟩
    obtain ⟨m, hm0⟩ : ∃ m, m = num (l.take 2) := ⟨_, rfl⟩
    have hm1 : m < 65536 := by have := num_lt (l.take 2); rw [List.length_take, Nat.min_eq_left (by omega), ← hm0] at this; exact this
    have hlen : (l.take 2).length = 2 := by rw [List.length_take]; omega
    have hnum : ∀ wx cx, View wx D (some ⟨b, o, none⟩) l → Calls Try.prog 40 #[.slice (some ⟨b, o, none⟩) 2 cx] wx fun e w' => e = .returned (.int .u64 m) ∧ wx = w' := by
      intro wx cx hv
      have := number_any D (some ⟨b, o, none⟩) (l.take 2) cx wx (View.take hv 2) (by omega)
      rw [hlen, ← hm0] at this
      exact this
    have HN := Lib.hid hnum
    have HV := Lib.hid hV
    have HM := Lib.hid hm0
    clear hnum hV hm0 hlen
    by_cases h3 : max most 0 < (m : Int)
    · have hfin : Hid (blobSz l most = (0, 4)) := by
        simp only [Hid, blobSz]
        rw [if_neg h2, ← HM.out, if_pos h3]
      go_enter Try.func42, Try.ntmps42
      go_wp2_with (fail)
      refine (HN.out _ _ HV.out).mono ?_
      rintro e w1 ⟨rfl, rfl⟩
      go_wp2
      all_goals go_ret2
      all_goals rw [hfin.out]
      all_goals exact ⟨rfl, rfl⟩
    · by_cases h4 : l.length - 2 < m
      · have hfin : Hid (blobSz l most = (0, 10)) := by
          simp only [Hid, blobSz]
          rw [if_neg h2, ← HM.out, if_neg h3, if_pos h4]
        go_enter Try.func42, Try.ntmps42
        go_wp2_with (fail)
        refine (HN.out _ _ HV.out).mono ?_
        rintro e w1 ⟨rfl, rfl⟩
        go_wp2
        all_goals go_ret2
        all_goals rw [hfin.out]
        all_goals exact ⟨rfl, rfl⟩
      · have hfin : Hid (blobSz l most = (m, 0)) := by
          simp only [Hid, blobSz]
          rw [if_neg h2, ← HM.out, if_neg h3, if_neg h4]
        go_enter Try.func42, Try.ntmps42
        go_wp2_with (fail)
        refine (HN.out _ _ HV.out).mono ?_
        rintro e w1 ⟨rfl, rfl⟩
        go_wp2
        all_goals go_ret2
        all_goals rw [hfin.out]
        all_goals exact ⟨rfl, rfl⟩

set_option maxHeartbeats 800000 in
theorem rblob_any (S : Nat → Prop) (p : Nat) (r : RS) (most : Int) (w : World) (hR : Rd w S p r) (hl : r.l.length ≤ 1000000000) (hmost : most ≤ 9223372036854775807) :
    Calls Try.prog 30 #[.pointer (some ⟨p, 0, none⟩), .int .i64 most] w (RawDone S p (r.blob most) w) := by
  have hR0 := Lib.hid hR
  obtain ⟨ao, cap, D, hb, hV, hD, hS, hlt, hlc, hm, hnone, hspot⟩ := hR
  obtain ⟨l, err⟩ := r
  have h0 := cell_of_block (i := 0) hb rfl
  have h1 := cell_of_block (i := 1) hb rfl
  have f1 := frozen_of_block (i := 1) hb
  simp only at h0 h1 hl hlc hV
  have hsz := Lib.hid (blobSize_any D ao l cap most w hV hl hlc hm hmost)
  clear hb hV hD hS hlt hlc hm hnone hspot
  by_cases he : err = 0
  · subst he
    obtain ⟨sz, er, hbs⟩ : ∃ sz er, blobSz l most = (sz, er) := ⟨_, _, rfl⟩
    by_cases hz : er = 0
    · subst hz
      have hfin : Hid (RS.blob ⟨l, 0⟩ most = ((l.drop 2).take sz, ⟨(l.drop 2).drop sz, 0⟩)) := by
        simp only [Hid, RS.blob, hbs]
        rw [if_neg (by simp), if_neg (by simp)]
      have hb2 : 2 ≤ l.length ∧ sz ≤ (l.drop 2).length := by
        rw [List.length_drop]
        unfold blobSz at hbs
        split at hbs
        · simp at hbs
        · split at hbs
          · simp at hbs
          · split at hbs
            · simp at hbs
            · simp at hbs; omega
      have HB := Lib.hid hbs
      have HB2 := Lib.hid hb2
      clear hbs hb2
      go_enter Try.func30, Try.ntmps30
      go_wp2_with (fail)
      refine hsz.out.mono ?_
      rintro e w1 ⟨rfl, rfl⟩
      rw [HB.out]
      go_wp2_with (fail)
      refine (take_any S p ⟨l, 0⟩ 2 w hR0.out (by have := HB2.out.1; simpa using this)).mono ?_
      rintro e w1 ⟨ao1, cap1, D1, rfl, hV1, hD1, hR1⟩
      have HR1 := Lib.hid hR1
      clear hV1 hR1
      go_wp2_with (fail)
      refine (take_any S p ⟨l.drop 2, 0⟩ sz w1 HR1.out.1 HB2.out.2).mono ?_
      rintro e w2 ⟨ao2, cap2, D2, rfl, hV2, hD2, hR2⟩
      have HV2 := Lib.hid hV2
      have HR2 := Lib.hid hR2
      clear hV2 hR2
      go_wp2_with (fail)
      have hlen : ((l.drop 2).take sz).length = sz := by rw [List.length_take]; have := HB2.out.2; omega
      have hcl := clone_any D2 ao2 ((l.drop 2).take sz) cap2 w2 HV2.out (by have := HB2.out.2; rw [List.length_drop] at this; omega)
      unfold CloneDone at hcl
      rw [hlen] at hcl
      have HL := Lib.hid hlen
      refine hcl.mono ?_
      rintro e w3 ⟨ao3, cap3, T3, rfl, hr3, hs3⟩
      have HR3 := Lib.hid hr3
      clear hcl hr3 hlen
      go_wp2
      go_ret
      rw [hfin.out]
      exact RawDone.mk' HL.out ⟨HR2.out.1, HR1.out.2.trans HR2.out.2⟩ HR3.out hs3
    · have hfin : Hid (RS.blob ⟨l, 0⟩ most = ([], ⟨l, er⟩)) := by
        simp only [Hid, RS.blob, hbs]
        rw [if_neg (by simp), if_pos hz]
      have HB := Lib.hid hbs
      clear hbs
      go_enter Try.func30, Try.ntmps30
      go_wp2_with (fail)
      refine hsz.out.mono ?_
      rintro e w1 ⟨rfl, rfl⟩
      rw [HB.out]
      go_wp2
      go_ret
      rw [hfin.out]
      exact RawDone.empty (hR0.out.fault 0 er)
  · have hfin : Hid (RS.blob ⟨l, err⟩ most = ([], ⟨l, err⟩)) := by simp [Hid, RS.blob, he]
    have he' : (err == 0) = false := by simp [he]
    go_enter Try.func30, Try.ntmps30
    go_wp2
    go_ret
    rw [hfin.out]
    exact RawDone.empty hR0.out.same

end Cod
end Go.Proofs.Ytefbcoakjdjkgaa
