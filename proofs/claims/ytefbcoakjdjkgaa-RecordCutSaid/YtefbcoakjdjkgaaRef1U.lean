/- Contracts of the document's own answer for layer 1: the reader's Blob. -/
import Derived.Test.YtefbcoakjdjkgaaRef1T
namespace Go.Proofs.Ytefbcoakjdjkgaa
open Go.RowKit Go.Own
namespace Cod

section
variable {B : Nat} {w0 w : World} {Ps : List Asn} {p : Nat} {ao : Option Addr} {cap : Nat} {bs : List UInt8} {i : Nat} {err : Int} {r : RS}

theorem set_self (Ps : List Asn) (j : Nat) (P : Asn) (h : Ps[j]? = some P) : Ps.set j P = Ps := by
  apply List.ext_getElem?
  intro k
  by_cases hkj : j = k
  · subst hkj
    have := (List.getElem?_eq_some_iff.1 h).1
    simp [this, ← h]
  · simp [hkj]

theorem get_set (Ps : List Asn) (j : Nat) (P : Asn) (h : j < Ps.length) : (Ps.set j P)[j]? = some P := by simp [h]

/-- one of the reader's own cells is set -/
theorem ref_set (H : St B w0 w Ps) (j : Nat) (hj : Ps[j]? = some (ARR p ao cap bs i err)) (n : Nat) (k : Nat) (u : Value) {i' : Nat} {err' : Int}
    (hu : (#[.slice ao bs.length cap, .int .i64 (i : Int), .int .i64 err] : Array Value).setIfInBounds k u = #[.slice ao bs.length cap, .int .i64 (i' : Int), .int .i64 err']) :
    St B w0 ((w.drewN n).setCell ⟨p, k, none⟩ u) (Ps.set j (ARR p ao cap bs i' err')) := by
  obtain ⟨S, ⟨hb, hk⟩, hB, put⟩ := H.at j hj
  obtain rfl : S = fun k => k = p := funext fun k => propext (hk k)
  have hx := blk_set (j := k) hb n u
  rw [hu] at hx
  exact put _ _ (ARR p ao cap bs i' err') ⟨hx.1, fun _ => Iff.rfl⟩ hx.2

theorem RefIn.later {w' : World} (h : RefIn B w ao cap bs) (g : ∀ k, k < B → w'.heap[k]? = w.heap[k]?) : RefIn B w' ao cap bs := ⟨h.view.same g, h.fits, h.small, h.top, h.bare⟩

set_option maxHeartbeats 2000000 in
theorem refblob_r (H : St B w0 w Ps) (j : Nat) (hj : Ps[j]? = some (ARR p ao cap bs i err)) (hin : RefIn B w ao cap bs) (ha : At bs r i err) (most : Int) (hmost : most ≤ 9223372036854775807) {x : List UInt8 × RS} (hx : r.blob most = x) {m : Nat} (hm : x.1.length = m) :
    Calls Try.prog 34 #[.pointer (some ⟨p, 0, none⟩), .int .i64 most] w fun e w' => ∃ a' cap' i' err', e = .returned (.slice a' m cap') ∧ View w' (fun k => k < B) a' x.1 ∧ At bs x.2 i' err' ∧ St B w0 w' (Ps.set j (ARR p ao cap bs i' err')) := by
  subst hx hm
  have hjl : j < Ps.length := (List.getElem?_eq_some_iff.1 hj).1
  have hb := H.block j hj
  have c1 := cell_of_block (i := 1) hb rfl
  have HA := Lib.hid ha
  have HH := Lib.hid H
  have HIN := Lib.hid hin
  obtain ⟨l, er⟩ := r
  obtain ⟨hl, rfl, hi⟩ := ha
  simp only at hl
  clear hb H hin
  -- behind the number: what is taken, and the place put back where that is a fault
  have tail : ∀ (w1 : World) (i1 : Nat) (e1 : Int) (r1 : RS) (n : Nat), St B w0 w1 (Ps.set j (ARR p ao cap bs i1 e1)) → At bs r1 i1 e1 → ∀ k, (r1.raw n).1.length = k →
      Calls Try.prog 44 #[.pointer (some ⟨p, 0, none⟩), .int .i64 n] w1 fun e w' => ∃ a' cap' i' err', e = .returned (.slice a' k cap') ∧ View w' (fun k => k < B) a' (r1.raw n).1 ∧ At bs (r1.raw n).2 i' err' ∧ St B w0 w' (Ps.set j (ARR p ao cap bs i' err')) := by
    intro w1 i1 e1 r1 n H1 ha1 k hk
    refine (reftake_st H1 j (get_set _ _ _ hjl) (HIN.out.later (Below.both HH.out.below H1.below)) ha1 n rfl hk).mono ?_
    rintro e w' ⟨a', cap', i', err', he, hv, h1, h2⟩
    rw [List.set_set] at h2
    exact ⟨a', cap', i', err', he, hv, h1, h2⟩
  have TAIL := Lib.hid tail
  clear tail
  have back : ∀ (w1 : World) (i1 : Nat) (e1 : Int), St B w0 w1 (Ps.set j (ARR p ao cap bs i1 e1)) → St B w0 (w1.setCell ⟨p, 1, none⟩ (.int .i64 (i : Int))) (Ps.set j (ARR p ao cap bs i e1)) := by
    intro w1 i1 e1 H1
    have := ref_set H1 j (get_set _ _ _ hjl) 0 1 (.int .i64 (i : Int)) (i' := i) (err' := e1) rfl
    rw [List.set_set] at this
    exact this
  have BACK := Lib.hid back
  clear back
  have cells : ∀ (w1 : World) (i1 : Nat) (e1 : Int), St B w0 w1 (Ps.set j (ARR p ao cap bs i1 e1)) → w1.heap[p]? = some (.cells #[.slice ao bs.length cap, .int .i64 (i1 : Int), .int .i64 e1] 58) := fun w1 i1 e1 H1 => H1.block j (get_set _ _ _ hjl)
  have CELLS := Lib.hid cells
  clear cells
  by_cases he : err = 0 ∧ 2 ≤ l.length
  · obtain ⟨rfl, h2⟩ := he
    have hnum : RS.num ⟨l, 0⟩ 2 = (num (l.take 2), ⟨l.drop 2, 0⟩) := by
      unfold RS.num
      rw [if_neg (by simp), if_neg (by omega), if_neg (by simp only; omega)]
      rfl
    obtain ⟨n, hn⟩ : ∃ n, n = num (l.take 2) := ⟨_, rfl⟩
    have hn2 : n < 65536 := by have := num_lt (l.take 2); rw [List.length_take, Nat.min_eq_left h2, ← hn] at this; exact this
    rw [← hn] at hnum
    have HNUM := Lib.hid hnum
    have HN := Lib.hid hn
    have HL := Lib.hid hl
    clear hnum hn hl
    have hmx : IntKind.u64.wrap (max most 0) = max most 0 := IntWalk.u64_in _ (by omega)
    have hn63 : IntKind.i64.wrap (n : Int) = (n : Int) := IntWalk.i64_in _ (by omega)
    by_cases hbig : max most 0 < (n : Int)
    · have hfin : Hid (RS.blob ⟨l, 0⟩ most = ([], ⟨l, 4⟩)) := by
        have : blobSz l most = (0, 4) := by unfold blobSz; rw [if_neg (by omega), ← HN.out, if_pos hbig]
        simp [Hid, RS.blob, this]
      go_enter Try.func34, Try.ntmps34
      go_wp2_with (fail)
      refine (refnum_r HH.out j hj HIN.out HA.out 2 HNUM.out hjl).mono ?_
      rintro e w1 ⟨i1, e1, rfl, hat, H1⟩
      obtain ⟨k1, rfl, k3⟩ := hat
      have hb1 := CELLS.out w1 i1 _ H1
      have d2 := cell_of_block (i := 2) hb1 rfl
      have e2 := frozen_of_block (i := 2) hb1
      have H1 := Lib.hid H1
      have HK := Lib.hid k1
      have HK3 := Lib.hid k3
      clear hb1 k1 k3
      go_wp2_with (fail)
      have H1' : St B w0 (w1.setCell ⟨p, 2, none⟩ (.int .i64 4)) (Ps.set j (ARR p ao cap bs i1 4)) := by
        have := ref_set H1.out j (get_set _ _ _ hjl) 0 2 (.int .i64 4) (i' := i1) (err' := 4) rfl
        rw [List.set_set] at this
        exact this
      have hraw : (RS.raw ⟨l.drop 2, 4⟩ n) = ([], ⟨l.drop 2, 4⟩) := raw_nil _ _ (by simp)
      have ht := TAIL.out _ i1 4 ⟨l.drop 2, 4⟩ n H1' ⟨HK.out, rfl, HK3.out⟩ 0 (by rw [hraw]; rfl)
      rw [hraw] at ht
      have HT := Lib.hid ht
      clear ht hraw
      refine HT.out.mono ?_
      rintro e w2 ⟨a', cap', i2, e2, rfl, hv, hat, H2⟩
      obtain ⟨k1, rfl, k3⟩ := hat
      have hb2 := CELLS.out w2 i2 _ H2
      have d2' := cell_of_block (i := 2) hb2 rfl
      have d1' := cell_of_block (i := 1) hb2 rfl
      have f1' := frozen_of_block (i := 1) hb2
      have H2 := Lib.hid H2
      have HV := Lib.hid hv
      have HK1 := Lib.hid k1
      have HK2 := Lib.hid k3
      clear hb2 k1 k3 hv
      go_wp2_with (fail)
      go_ret
      rw [hfin.out]
      exact ⟨a', cap', i, 4, rfl, .inl rfl, ⟨HL.out, rfl, hi⟩, BACK.out w2 i2 4 H2.out⟩
    · by_cases hs : l.length - 2 < n
      · have hfin : Hid (RS.blob ⟨l, 0⟩ most = ([], ⟨l, 10⟩)) := by
          have : blobSz l most = (0, 10) := by unfold blobSz; rw [if_neg (by omega), ← HN.out, if_neg hbig, if_pos hs]
          simp [Hid, RS.blob, this]
        go_enter Try.func34, Try.ntmps34
        go_wp2_with (fail)
        refine (refnum_r HH.out j hj HIN.out HA.out 2 HNUM.out hjl).mono ?_
        rintro e w1 ⟨i1, e1, rfl, hat, H1⟩
        obtain ⟨k1, rfl, k3⟩ := hat
        have hb1 := CELLS.out w1 i1 _ H1
        have d2 := cell_of_block (i := 2) hb1 rfl
        have e2 := frozen_of_block (i := 2) hb1
        have H1 := Lib.hid H1
        have HK := Lib.hid k1
        have HK3 := Lib.hid k3
        clear hb1 k1 k3
        go_wp2_with (fail)
        have hraw : (RS.raw ⟨l.drop 2, 0⟩ n) = ([], ⟨l.drop 2, 10⟩) := by
          unfold RS.raw
          rw [if_neg (by simp), if_neg (by omega), if_pos (by simp only [List.length_drop]; omega)]
        have ht := TAIL.out _ i1 0 ⟨l.drop 2, 0⟩ n H1.out ⟨HK.out, rfl, HK3.out⟩ 0 (by rw [hraw]; rfl)
        rw [hraw] at ht
        have HT := Lib.hid ht
        clear ht hraw
        refine HT.out.mono ?_
        rintro e w2 ⟨a', cap', i2, e2, rfl, hv, hat, H2⟩
        obtain ⟨k1, rfl, k3⟩ := hat
        have hb2 := CELLS.out w2 i2 _ H2
        have d2' := cell_of_block (i := 2) hb2 rfl
        have d1' := cell_of_block (i := 1) hb2 rfl
        have f1' := frozen_of_block (i := 1) hb2
        have H2 := Lib.hid H2
        have HV := Lib.hid hv
        have HK1 := Lib.hid k1
        have HK2 := Lib.hid k3
        clear hb2 k1 k3 hv
        go_wp2_with (fail)
        go_ret
        rw [hfin.out]
        exact ⟨a', cap', i, 10, rfl, .inl rfl, ⟨HL.out, rfl, hi⟩, BACK.out w2 i2 10 H2.out⟩
      · have hfin : Hid (RS.blob ⟨l, 0⟩ most = ((l.drop 2).take n, ⟨(l.drop 2).drop n, 0⟩)) := by
          have : blobSz l most = (n, 0) := by unfold blobSz; rw [if_neg (by omega), ← HN.out, if_neg hbig, if_neg hs]
          simp [Hid, RS.blob, this]
        go_enter Try.func34, Try.ntmps34
        go_wp2_with (fail)
        refine (refnum_r HH.out j hj HIN.out HA.out 2 HNUM.out hjl).mono ?_
        rintro e w1 ⟨i1, e1, rfl, hat, H1⟩
        obtain ⟨k1, rfl, k3⟩ := hat
        have hb1 := CELLS.out w1 i1 _ H1
        have d2 := cell_of_block (i := 2) hb1 rfl
        have e2 := frozen_of_block (i := 2) hb1
        have H1 := Lib.hid H1
        have HK := Lib.hid k1
        have HK3 := Lib.hid k3
        clear hb1 k1 k3
        go_wp2_with (fail)
        have hraw : (RS.raw ⟨l.drop 2, 0⟩ n) = ((l.drop 2).take n, ⟨(l.drop 2).drop n, 0⟩) := by
          unfold RS.raw
          rw [if_neg (by simp), if_neg (by omega), if_neg (by simp only [List.length_drop]; omega), Int.toNat_natCast]
        have hlen : ((l.drop 2).take n).length = n := by rw [List.length_take, List.length_drop]; omega
        have ht := TAIL.out _ i1 0 ⟨l.drop 2, 0⟩ n H1.out ⟨HK.out, rfl, HK3.out⟩ n (by rw [hraw]; exact hlen)
        rw [hraw] at ht
        have HLEN := Lib.hid hlen
        clear hlen
        have HT := Lib.hid ht
        clear ht hraw
        refine HT.out.mono ?_
        rintro e w2 ⟨a', cap', i2, e2, rfl, hv, hat, H2⟩
        obtain ⟨k1, rfl, k3⟩ := hat
        have hb2 := CELLS.out w2 i2 _ H2
        have d2' := cell_of_block (i := 2) hb2 rfl
        have d1' := cell_of_block (i := 1) hb2 rfl
        have f1' := frozen_of_block (i := 1) hb2
        have H2 := Lib.hid H2
        have HV := Lib.hid hv
        have HK1 := Lib.hid k1
        have HK2 := Lib.hid k3
        clear hb2 k1 k3 hv
        go_wp2_with (fail)
        go_ret
        rw [hfin.out]
        exact ⟨a', cap', i2, 0, by rw [HLEN.out]; rfl, HV.out, ⟨HK1.out, rfl, HK2.out⟩, H2.out⟩
  · have hfin : Hid (RS.blob ⟨l, err⟩ most = ([], (RS.num ⟨l, err⟩ 2).2) ∧ (RS.num ⟨l, err⟩ 2).1 = 0 ∧ (RS.num ⟨l, err⟩ 2).2.err ≠ 0 ∧ (RS.num ⟨l, err⟩ 2).2.l = l) := by
      show _ ∧ _ ∧ _ ∧ _
      by_cases h0 : err = 0
      · subst h0
        have h2 : l.length < 2 := by
          rcases Nat.lt_or_ge l.length 2 with h | h
          · exact h
          · exact absurd ⟨rfl, h⟩ he
        have h2' : (l.length : Int) < 2 := by omega
        have : blobSz l most = (0, 10) := by unfold blobSz; rw [if_pos h2]
        simp [RS.blob, RS.num, this, h2']
      · simp [RS.blob, RS.num, h0]
    obtain ⟨z, hz⟩ : ∃ z, z = (RS.num ⟨l, err⟩ 2) := ⟨_, rfl⟩
    rw [← hz] at hfin
    obtain ⟨zn, zl, ze⟩ := z
    obtain ⟨g1, rfl, g3, rfl⟩ := hfin.out
    have HZ := Lib.hid hz.symm
    have G1 := Lib.hid g1
    have HL := Lib.hid hl
    have hze : (ze == 0) = false := by simpa using g3
    clear hz hfin he g1 hl
    go_enter Try.func34, Try.ntmps34
    go_wp2_with (fail)
    refine (refnum_r HH.out j hj HIN.out HA.out 2 HZ.out hjl).mono ?_
    rintro e w1 ⟨i1, e1, rfl, hat, H1⟩
    obtain ⟨k1, rfl, k3⟩ := hat
    have hb1 := CELLS.out w1 i1 _ H1
    have d2 := cell_of_block (i := 2) hb1 rfl
    have H1 := Lib.hid H1
    have HK := Lib.hid k1
    have HK3 := Lib.hid k3
    clear hb1 k1 k3
    go_wp2_with (fail)
    have hraw : (RS.raw ⟨zl, e1⟩ (0 : Nat)) = ([], ⟨zl, e1⟩) := raw_nil _ _ g3
    have ht := TAIL.out w1 i1 e1 ⟨zl, e1⟩ 0 H1.out ⟨HK.out, rfl, HK3.out⟩ 0 (by rw [hraw]; rfl)
    rw [hraw] at ht
    have HT := Lib.hid ht
    clear ht hraw
    refine HT.out.mono ?_
    rintro e w2 ⟨a', cap', i2, e2, rfl, hv, hat, H2⟩
    obtain ⟨k1, rfl, k3⟩ := hat
    have hb2 := CELLS.out w2 i2 _ H2
    have d2' := cell_of_block (i := 2) hb2 rfl
    have d1' := cell_of_block (i := 1) hb2 rfl
    have f1' := frozen_of_block (i := 1) hb2
    have H2 := Lib.hid H2
    clear hb2 k1 k3 hv
    go_wp2_with (fail)
    go_ret
    rw [G1.out]
    exact ⟨a', cap', i, e2, rfl, .inl rfl, ⟨HL.out, rfl, hi⟩, BACK.out w2 i2 e2 H2.out⟩

end

end Cod
end Go.Proofs.Ytefbcoakjdjkgaa
