/- Contracts of the document's own answer for layer 1: the reader's methods, over the state of a call. -/
import Derived.Test.YtefbcoakjdjkgaaRef1R
import Derived.Test.YtefbcoakjdjkgaaCodE
namespace Go.Proofs.Ytefbcoakjdjkgaa
open Go.RowKit Go.Own
namespace Cod

/-- what a reference reader leaves: its place and error such that r is what is left -/
def At (bs : List UInt8) (r : RS) (i : Nat) (err : Int) : Prop := bs.drop i = r.l ∧ err = r.err ∧ i ≤ bs.length

section
variable {B : Nat} {w0 w : World} {Ps : List Asn} {p : Nat} {ao : Option Addr} {cap : Nat} {bs : List UInt8} {i : Nat} {err : Int} {r : RS}

/-- what all of it needs of the bytes -/
structure RefIn (B : Nat) (w : World) (ao : Option Addr) (cap : Nat) (bs : List UInt8) : Prop where
  view : View w (fun k => k < B) ao bs
  fits : bs.length ≤ cap
  small : bs.length ≤ 1000000
  top : cap ≤ maxLen
  bare : ao = Option.none → cap = 0

theorem reftake_st (H : St B w0 w Ps) (j : Nat) (hj : Ps[j]? = some (ARR p ao cap bs i err)) (hin : RefIn B w ao cap bs) (ha : At bs r i err) (n : Int) {x : List UInt8 × RS} (hx : r.raw n = x) {m : Nat} (hm : x.1.length = m) :
    Calls Try.prog 44 #[.pointer (some ⟨p, 0, none⟩), .int .i64 n] w fun e w' => ∃ a' cap' i' err', e = .returned (.slice a' m cap') ∧ View w' (fun k => k < B) a' x.1 ∧ At bs x.2 i' err' ∧ St B w0 w' (Ps.set j (ARR p ao cap bs i' err')) := by
  subst hx hm
  obtain ⟨S, hS, hB, put⟩ := H.at j hj
  obtain ⟨l, er⟩ := r
  obtain ⟨rfl, rfl, hi⟩ := ha
  obtain ⟨hb, hk⟩ := hS
  obtain rfl : S = fun k => k = p := funext fun k => propext (hk k)
  refine (reftake_any B p ao cap bs i err n w hb hin.view (hB p rfl) hi hin.fits hin.small hin.top hin.bare).mono ?_
  rintro e w' ⟨a', cap', i', err', rfl, hv, h1, h2, h3, h4, h5⟩
  exact ⟨a', cap', i', err', rfl, hv, ⟨h1, h2, h3⟩, put _ w' (ARR p ao cap bs i' err') ⟨h4, fun _ => Iff.rfl⟩ h5⟩

theorem refraw_r (H : St B w0 w Ps) (j : Nat) (hj : Ps[j]? = some (ARR p ao cap bs i err)) (hin : RefIn B w ao cap bs) (ha : At bs r i err) (n : Int) {x : List UInt8 × RS} (hx : r.raw n = x) {m : Nat} (hm : x.1.length = m) :
    Calls Try.prog 33 #[.pointer (some ⟨p, 0, none⟩), .int .i64 n] w fun e w' => ∃ a' cap' i' err', e = .returned (.slice a' m cap') ∧ View w' (fun k => k < B) a' x.1 ∧ At bs x.2 i' err' ∧ St B w0 w' (Ps.set j (ARR p ao cap bs i' err')) := by
  go_enter Try.func33, Try.ntmps33
  go_wp2_with (fail)
  refine (reftake_st H j hj hin ha n hx hm).mono ?_
  rintro e w' ⟨a', cap', i', err', rfl, h⟩
  have H' := Lib.hid h
  clear h
  go_wp2
  go_ret
  exact ⟨a', cap', i', err', rfl, H'.out⟩

theorem refend_st (H : St B w0 w Ps) (j : Nat) (hj : Ps[j]? = some (ARR p ao cap bs i err)) (ha : At bs r i err) (hs : bs.length ≤ 1000000) :
    Calls Try.prog 35 #[.pointer (some ⟨p, 0, none⟩)] w fun e w' => e = .returned (.int .i64 r.fin) ∧ ∃ n, w' = w.drewN n := by
  have hb := H.block j hj
  obtain ⟨l, er⟩ := r
  obtain ⟨hl, rfl, hi⟩ := ha
  simp only at hl
  have c0 := cell_of_block (i := 0) hb rfl
  have c1 := cell_of_block (i := 1) hb rfl
  have c2 := cell_of_block (i := 2) hb rfl
  obtain ⟨len, hlen⟩ : ∃ len, len = bs.length := ⟨_, rfl⟩
  rw [← hlen] at c0 hi hs
  have hll : l.length = len - i := by rw [← hl, List.length_drop, hlen]
  have HLL := Lib.hid hll
  clear hb hl hlen hll
  by_cases he : err = 0
  · subst he
    by_cases hz : i < len
    · have hfin : Hid (RS.fin ⟨l, 0⟩ = 11) := by
        have : l ≠ [] := by rintro rfl; have := HLL.out; simp at this; omega
        simp [Hid, RS.fin, this]
      have hz' : decide (i < len) = true := by simpa using hz
      go_enter Try.func35, Try.ntmps35
      go_wp2
      go_quiet (fail)
      go_wp2
      go_ret
      rw [hfin.out]
      exact ⟨rfl, _, rfl⟩
    · have hfin : Hid (RS.fin ⟨l, 0⟩ = 0) := by
        have : l = [] := List.eq_nil_of_length_eq_zero (by have := HLL.out; omega)
        simp [Hid, RS.fin, this]
      have hz' : decide (i < len) = false := by simpa using hz
      go_enter Try.func35, Try.ntmps35
      go_wp2
      go_quiet (fail)
      go_wp2
      go_ret
      rw [hfin.out]
      exact ⟨rfl, _, rfl⟩
  · have hfin : Hid (RS.fin ⟨l, err⟩ = err) := by simp [Hid, RS.fin, he]
    have he' : (err == 0) = false := by simp [he]
    go_enter Try.func35, Try.ntmps35
    go_wp2
    go_quiet (fail)
    go_wp2
    go_ret
    rw [hfin.out]
    exact ⟨rfl, _, rfl⟩

theorem num_raw (l : List UInt8) (err many : Int) (h : ¬ (err = 0 ∧ 8 < many)) : RS.num ⟨l, err⟩ many = (num (RS.raw ⟨l, err⟩ many).1, (RS.raw ⟨l, err⟩ many).2) ∧ (RS.raw ⟨l, err⟩ many).1.length ≤ 8 := by
  by_cases he : err = 0
  · subst he
    have h8 : ¬ 8 < many := fun g => h ⟨rfl, g⟩
    by_cases hneg : many < 0
    · simp [RS.num, RS.raw, hneg, num]
    · by_cases hs : (l.length : Int) < many
      · simp [RS.num, RS.raw, hneg, h8, hs, num]
      · simp [RS.num, RS.raw, hneg, h8, hs]
        omega
  · simp [RS.num, RS.raw, he, num]

theorem raw_nil (r : RS) (n : Int) (h : r.err ≠ 0) : r.raw n = ([], r) := by unfold RS.raw; rw [if_pos h]

set_option maxHeartbeats 800000 in
theorem refnum_r (H : St B w0 w Ps) (j : Nat) (hj : Ps[j]? = some (ARR p ao cap bs i err)) (hin : RefIn B w ao cap bs) (ha : At bs r i err) (many : Int) {x : Nat × RS} (hx : r.num many = x) (hjl : j < Ps.length) :
    Calls Try.prog 32 #[.pointer (some ⟨p, 0, none⟩), .int .i64 many] w fun e w' => ∃ i' err', e = .returned (.int .u64 x.1) ∧ At bs x.2 i' err' ∧ St B w0 w' (Ps.set j (ARR p ao cap bs i' err')) := by
  subst hx
  have hb := H.block j hj
  have c2 := cell_of_block (i := 2) hb rfl
  have f2 := frozen_of_block (i := 2) hb
  have HA := Lib.hid ha
  have HH := Lib.hid H
  have HIN := Lib.hid hin
  have HB := Lib.hid hb
  obtain ⟨l, er⟩ := r
  obtain ⟨_, rfl, _⟩ := ha
  clear hb H hin
  have look : ∀ (wa : World) (i1 : Nat) (e1 : Int) (r1 : RS), St B w0 wa (Ps.set j (ARR p ao cap bs i1 e1)) → RefIn B wa ao cap bs → At bs r1 i1 e1 → ∀ n, (r1.raw n).1.length ≤ 8 →
      ∃ m, (r1.raw n).1.length = m ∧ Calls Try.prog 44 #[.pointer (some ⟨p, 0, none⟩), .int .i64 n] wa fun e w' => ∃ a' cap' i' err', e = .returned (.slice a' m cap') ∧ (Calls Try.prog 43 #[.slice a' m cap'] w' fun e w'' => e = .returned (.int .u64 (num (r1.raw n).1)) ∧ w' = w'') ∧ At bs (r1.raw n).2 i' err' ∧ St B w0 w' (Ps.set j (ARR p ao cap bs i' err')) := by
    intro wa i1 e1 r1 H1 hin1 ha1 n hl
    refine ⟨_, rfl, ?_⟩
    refine (reftake_st H1 j (by simp [hjl]) hin1 ha1 n rfl rfl).mono ?_
    rintro e w' ⟨a', cap', i', err', rfl, hv, h1, h2⟩
    rw [List.set_set] at h2
    exact ⟨a', cap', i', err', rfl, refnumber_any _ a' _ cap' w' hv hl, h1, h2⟩
  have LOOK := Lib.hid look
  clear look
  by_cases hbig : err = 0 ∧ 8 < many
  · obtain ⟨rfl, hbg⟩ := hbig
    have hfin : Hid (RS.num ⟨l, 0⟩ many = (0, ⟨l, 1⟩)) := by simp [Hid, RS.num, hbg]
    obtain ⟨S, hS, hB', put⟩ := HH.out.at j hj
    obtain ⟨hb1, hk⟩ := hS
    obtain rfl : S = fun k => k = p := funext fun k => propext (hk k)
    have hx := blk_set (j := 2) HB.out 0 (.int .i64 1)
    have h1 := put _ _ (ARR p ao cap bs i 1) ⟨hx.1, fun _ => Iff.rfl⟩ hx.2
    have hin1 : RefIn B ((w.drewN 0).setCell ⟨p, 2, none⟩ (.int .i64 1)) ao cap bs := ⟨HIN.out.view.step hx.2 (fun k h1 h2 => by have := hB' p rfl; omega), HIN.out.fits, HIN.out.small, HIN.out.top, HIN.out.bare⟩
    obtain ⟨m, hm, hc⟩ := LOOK.out _ i 1 ⟨l, 1⟩ h1 hin1 ⟨HA.out.1, rfl, HA.out.2.2⟩ many (by rw [raw_nil _ _ (by simp)]; simp)
    rw [raw_nil _ _ (by simp)] at hm hc
    obtain rfl : m = 0 := by simpa using hm.symm
    have HCC := Lib.hid hc
    clear hc h1 hin1 hx put hm
    go_enter Try.func32, Try.ntmps32
    go_wp2_with (fail)
    refine HCC.out.mono ?_
    rintro e w1 ⟨a', cap', i', err', rfl, hn, h1, h2⟩
    have HX := Lib.hid h2
    have HN := Lib.hid hn
    have HAT := Lib.hid h1
    clear h1 h2 hn
    go_wp2_with (fail)
    refine HN.out.mono ?_
    rintro e w2 ⟨rfl, rfl⟩
    go_wp2_with (fail)
    go_ret
    rw [hfin.out]
    exact ⟨i', err', rfl, HAT.out, HX.out⟩
  · have hfin : Hid (RS.num ⟨l, err⟩ many = (num (RS.raw ⟨l, err⟩ many).1, (RS.raw ⟨l, err⟩ many).2) ∧ (RS.raw ⟨l, err⟩ many).1.length ≤ 8) := by
      exact num_raw l err many hbig
    have hset : Ps.set j (ARR p ao cap bs i err) = Ps := by
      apply List.ext_getElem?
      intro k
      by_cases hkj : j = k
      · subst hkj; simp [hjl, ← hj]
      · simp [hkj]
    obtain ⟨m, hm, hc⟩ := LOOK.out w i err ⟨l, err⟩ (by rw [hset]; exact HH.out) HIN.out HA.out many hfin.out.2
    have HCC := Lib.hid hc
    clear hc hm hset
    by_cases he : err = 0
    · subst he
      have hb8 : many ≤ 8 := by
        rcases Int.lt_or_le 8 many with h | h
        · exact absurd ⟨rfl, h⟩ hbig
        · exact h
      clear hbig
      go_enter Try.func32, Try.ntmps32
      go_wp2_with (fail)
      refine HCC.out.mono ?_
      rintro e w1 ⟨a', cap', i', err', rfl, hn, h1, h2⟩
      have HX := Lib.hid h2
      have HN := Lib.hid hn
      have HAT := Lib.hid h1
      clear h1 h2 hn
      go_wp2_with (fail)
      refine HN.out.mono ?_
      rintro e w2 ⟨rfl, rfl⟩
      go_wp2_with (fail)
      go_ret
      rw [hfin.out.1]
      exact ⟨i', err', rfl, HAT.out, HX.out⟩
    · have he' : (err == 0) = false := by simp [he]
      clear hbig
      go_enter Try.func32, Try.ntmps32
      go_wp2_with (fail)
      refine HCC.out.mono ?_
      rintro e w1 ⟨a', cap', i', err', rfl, hn, h1, h2⟩
      have HX := Lib.hid h2
      have HN := Lib.hid hn
      have HAT := Lib.hid h1
      clear h1 h2 hn
      go_wp2_with (fail)
      refine HN.out.mono ?_
      rintro e w2 ⟨rfl, rfl⟩
      go_wp2_with (fail)
      go_ret
      rw [hfin.out.1]
      exact ⟨i', err', rfl, HAT.out, HX.out⟩
end

end Cod
end Go.Proofs.Ytefbcoakjdjkgaa
