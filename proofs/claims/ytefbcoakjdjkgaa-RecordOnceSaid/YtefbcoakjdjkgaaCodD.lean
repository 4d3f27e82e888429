/- Contracts of package codec: the reader's methods. -/
import Derived.Test.YtefbcoakjdjkgaaCodC
namespace Go.Proofs.Ytefbcoakjdjkgaa
open Go.RowKit Go.Own
namespace Cod

def RS.num (r : RS) (many : Int) : Nat × RS :=
  if r.err ≠ 0 then (0, r) else if many < 0 ∨ 8 < many then (0, ⟨r.l, 1⟩) else if (r.l.length : Int) < many then (0, ⟨r.l, 10⟩) else (Cod.num (r.l.take many.toNat), ⟨r.l.drop many.toNat, 0⟩)
def RS.raw (r : RS) (n : Int) : List UInt8 × RS :=
  if r.err ≠ 0 then ([], r) else if n < 0 then ([], ⟨r.l, 1⟩) else if (r.l.length : Int) < n then ([], ⟨r.l, 10⟩) else (r.l.take n.toNat, ⟨r.l.drop n.toNat, 0⟩)
def blobSz (l : List UInt8) (most : Int) : Nat × Int :=
  if l.length < 2 then (0, 10) else if max most 0 < (Cod.num (l.take 2) : Int) then (0, 4) else if l.length - 2 < Cod.num (l.take 2) then (0, 10) else (Cod.num (l.take 2), 0)
def RS.blob (r : RS) (most : Int) : List UInt8 × RS :=
  if r.err ≠ 0 then ([], r) else if (blobSz r.l most).2 ≠ 0 then ([], ⟨r.l, (blobSz r.l most).2⟩) else ((r.l.drop 2).take (blobSz r.l most).1, ⟨(r.l.drop 2).drop (blobSz r.l most).1, 0⟩)
def RS.fin (r : RS) : Int := if r.err = 0 ∧ r.l ≠ [] then 11 else r.err

def NewRDone (l : List UInt8) (w : World) (e : Ending) (w' : World) : Prop :=
  ∃ p S, e = .returned (.pointer (some ⟨p, 0, none⟩)) ∧ Rd w' S p ⟨l, 0⟩ ∧ Step (fun _ => False) S w w'

theorem newReader_any (D : Nat → Prop) (ao : Option Addr) (l : List UInt8) (cap : Nat) (w : World) (hV : View w D ao l) (hl : l.length ≤ 1000000000) :
    Calls Try.prog 27 #[.slice ao l.length cap] w (NewRDone l w) := by
  go_enter Try.func27, Try.ntmps27
  go_wp2_with (fail)
  refine (clone_any D ao l cap w hV hl).mono ?_
  rintro e w1 ⟨ao1, cap1, T, rfl, hr, hs⟩
  go_wp2
  go_ret
  obtain ⟨ao', cap', hv, h1, h2, h3, h4⟩ := hr.form
  simp only [Value.slice.injEq, true_and] at hv
  obtain ⟨rfl, rfl⟩ := hv
  have g : Step T (fun k => k = w1.heap.size ∨ T k) w1 (w1.alloc (.cells #[.slice ao1 l.length cap1, .int .i64 0] 64)) := ((Step.refl T w1).alloc _).to (fun k hk => hk.elim (fun e => .inr (Nat.le_of_eq e.symm)) .inl)
  refine ⟨w1.heap.size, fun k => k = w1.heap.size ∨ T k, rfl, ⟨ao1, cap1, T, heap_alloc_new w1 _, hr.view.step ((Step.refl (fun _ => False) w1).alloc _) (fun _ _ h => h), fun h => by have := hr.lt _ h; omega, fun k => Iff.rfl, fun k hk => by have := hr.lt k hk; simp; omega, h1, h2, fun h => (h3 h).2.1, fun a h => by obtain ⟨g, rfl, _⟩ := h4 a h; rfl⟩, hs.trans g⟩

theorem end_any (S : Nat → Prop) (p : Nat) (r : RS) (w : World) (hR : Rd w S p r) :
    Calls Try.prog 31 #[.pointer (some ⟨p, 0, none⟩)] w fun e w' => e = .returned (.int .i64 r.fin) ∧ w = w' := by
  obtain ⟨ao, cap, D, hb, hV, hD, hS, hlt, hlc, hm, hnone, hspot⟩ := hR
  obtain ⟨l, err⟩ := r
  have h0 := cell_of_block (i := 0) hb rfl
  have h1 := cell_of_block (i := 1) hb rfl
  clear hb hV hD hS hlt
  simp only at h0 h1
  obtain ⟨n, hn⟩ : ∃ n, n = l.length := ⟨_, rfl⟩
  rw [← hn] at h0
  by_cases he : err = 0
  · subst he
    by_cases hz : n = 0
    · have hfin : RS.fin ⟨l, 0⟩ = 0 := by
        have : l = [] := List.eq_nil_of_length_eq_zero (by omega)
        simp [RS.fin, this]
      rw [hfin]
      subst hz
      clear hn hfin
      go_enter Try.func31, Try.ntmps31
      go_wp2
      go_ret
      exact ⟨rfl, rfl⟩
    · have hfin : RS.fin ⟨l, 0⟩ = 11 := by
        have : l ≠ [] := by rintro rfl; simp at hn; omega
        simp [RS.fin, this]
      rw [hfin]
      have hz' : 0 < n := by omega
      clear hn hfin
      go_enter Try.func31, Try.ntmps31
      go_wp2
      go_ret
      exact ⟨rfl, rfl⟩
  · have hfin : RS.fin ⟨l, err⟩ = err := by simp [RS.fin, he]
    rw [hfin]
    have he' : (err == 0) = false := by simp [he]
    clear hn hfin
    go_enter Try.func31, Try.ntmps31
    go_wp2
    go_ret
    exact ⟨rfl, rfl⟩

def NumRDone (S : Nat → Prop) (p : Nat) (x : Nat × RS) (w : World) (e : Ending) (w' : World) : Prop := e = .returned (.int .u64 x.1) ∧ RdTo S p x.2 w w'

theorem Rd.same {w : World} {S : Nat → Prop} {p : Nat} {r : RS} (h : Rd w S p r) : RdTo S p r w w := ⟨h, Step.refl S w⟩

set_option maxHeartbeats 400000 in
theorem rnum_any (S : Nat → Prop) (p : Nat) (r : RS) (many : Int) (w : World) (hR : Rd w S p r) (hl : r.l.length ≤ 1000000000) :
    Calls Try.prog 28 #[.pointer (some ⟨p, 0, none⟩), .int .i64 many] w (NumRDone S p (r.num many) w) := by
  have hR0 := Lib.hid hR
  obtain ⟨ao, cap, D, hb, hV, hD, hS, hlt, hlc, hm, hnone, hspot⟩ := hR
  obtain ⟨l, err⟩ := r
  have h0 := cell_of_block (i := 0) hb rfl
  have h1 := cell_of_block (i := 1) hb rfl
  have f1 := frozen_of_block (i := 1) hb
  clear hb hV hD hS hlt hlc hm hnone hspot
  simp only at h0 h1 hl
  by_cases he : err = 0
  · subst he
    by_cases hbad : many < 0 ∨ 8 < many
    · have hfin : Hid (RS.num ⟨l, 0⟩ many = (0, ⟨l, 1⟩)) := by simp [Hid, RS.num, hbad]
      by_cases hneg : many < 0
      · go_enter Try.func28, Try.ntmps28
        go_wp2
        go_ret
        rw [hfin.out]
        exact ⟨rfl, hR0.out.fault 0 1⟩
      · have hbig : 8 < many := by omega
        go_enter Try.func28, Try.ntmps28
        go_wp2
        go_ret
        rw [hfin.out]
        exact ⟨rfl, hR0.out.fault 0 1⟩
    · obtain ⟨k, rfl⟩ := Int.eq_ofNat_of_zero_le (show 0 ≤ many by omega)
      have hk8 : k ≤ 8 := by omega
      by_cases hs : (l.length : Int) < k
      · have hfin : Hid (RS.num ⟨l, 0⟩ k = (0, ⟨l, 10⟩)) := by
          simp only [Hid, RS.num]
          rw [if_neg (by simp), if_neg hbad, if_pos hs]
        go_enter Try.func28, Try.ntmps28
        go_wp2
        go_ret
        rw [hfin.out]
        exact ⟨rfl, hR0.out.fault 0 10⟩
      · have hfin : Hid (RS.num ⟨l, 0⟩ k = (Cod.num (l.take k), ⟨l.drop k, 0⟩)) := by
          simp only [Hid, RS.num]
          rw [if_neg (by simp), if_neg hbad, if_neg hs, Int.toNat_natCast]
        go_enter Try.func28, Try.ntmps28
        go_wp2_with (fail)
        refine (take_any S p ⟨l, 0⟩ k w hR0.out (by simp; omega)).mono ?_
        rintro e w1 ⟨ao1, cap1, D1, rfl, hV1, hD1, hR1⟩
        have HV1 := Lib.hid hV1
        have HR1 := Lib.hid hR1
        clear hV1 hR1
        go_wp2_with (fail)
        have hlen : (l.take k).length = k := by rw [List.length_take]; omega
        have hnum := number_any D1 ao1 (l.take k) cap1 w1 HV1.out (by omega)
        rw [hlen] at hnum
        refine hnum.mono ?_
        rintro e w2 ⟨rfl, rfl⟩
        clear hnum hlen
        go_wp2
        go_ret
        rw [hfin.out]
        exact ⟨rfl, HR1.out⟩
  · have hfin : Hid (RS.num ⟨l, err⟩ many = (0, ⟨l, err⟩)) := by simp [Hid, RS.num, he]
    have he' : (err == 0) = false := by simp [he]
    go_enter Try.func28, Try.ntmps28
    go_wp2
    go_ret
    rw [hfin.out]
    exact ⟨rfl, hR0.out.same⟩

end Cod
end Go.Proofs.Ytefbcoakjdjkgaa
