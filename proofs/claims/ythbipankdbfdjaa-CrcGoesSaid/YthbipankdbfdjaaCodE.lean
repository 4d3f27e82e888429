/- Contracts of package codec: the reader's Raw and Blob. -/
import Derived.Test.YthbipankdbfdjaaCodD
namespace Go.Proofs.Ythbipankdbfdjaa
open Go.RowKit Go.Own
namespace Cod

/-- what a call leaves that answers bytes of a reader: the reader is so, the bytes are new memory -/
def RawDone (S : Nat → Prop) (p : Nat) (x : List UInt8 × RS) (w : World) (e : Ending) (w' : World) : Prop :=
  ∃ ao cap T, e = .returned (.slice ao x.1.length cap) ∧ Row w' 5 1 T (.slice ao x.1.length cap) x.1.length (x.1.map byteV) ∧ Rd w' S p x.2 ∧ Step S S w w' ∧ ∀ k, T k → w.heap.size ≤ k

theorem RawDone.empty {S : Nat → Prop} {p : Nat} {r : RS} {w w' : World} (h : RdTo S p r w w') : RawDone S p ([], r) w (.returned (.slice none 0 0)) w' :=
  ⟨none, 0, fun _ => False, rfl, Row.nil _ _ _, h.1, h.2, fun _ h => h.elim⟩

theorem RawDone.mk' {S T : Nat → Prop} {p : Nat} {r : RS} {l : List UInt8} {n : Nat} {w w1 w2 : World} {ao : Option Addr} {cap : Nat} (hn : l.length = n) (h : RdTo S p r w w1) (hr : Row w2 5 1 T (.slice ao n cap) n (l.map byteV)) (hs : Step (fun _ => False) T w1 w2) :
    RawDone S p (l, r) w (.returned (.slice ao n cap)) w2 := by
  subst hn
  refine ⟨ao, cap, T, rfl, hr, h.1.keep hs (fun _ _ h => h), ?_, fun k hk => (hs.new k hk).elim (fun h => h.elim) (fun g => Nat.le_trans h.2.size g)⟩
  have g := h.2
  exact ⟨hs.os.trans g.os, hs.tape.trans g.tape, hs.output.trans g.output, Nat.le_trans g.size hs.size, fun k hk hS => (hs.block k (by have := g.size; omega) (fun h => h)).trans (g.block k hk hS), fun k hk => .inl hk⟩

set_option maxHeartbeats 400000 in
theorem rraw_any (S : Nat → Prop) (p : Nat) (r : RS) (n : Int) (w : World) (hR : Rd w S p r) (hl : r.l.length ≤ 1000000000) :
    Calls Try.prog 22 #[.pointer (some ⟨p, 0, none⟩), .int .i64 n] w (RawDone S p (r.raw n) w) := by
  have hR0 := Lib.hid hR
  obtain ⟨ao, cap, D, hb, hV, hD, hS, hlt, hlc, hm, hnone, hspot⟩ := hR
  obtain ⟨l, err⟩ := r
  have h0 := cell_of_block (i := 0) hb rfl
  have h1 := cell_of_block (i := 1) hb rfl
  have f1 := frozen_of_block (i := 1) hb
  clear hb hV hD hS hlt hlc hm hnone hspot
  simp only at h0 h1 hl
  by_cases he : err = 0
  · subst he
    by_cases hneg : n < 0
    · have hfin : Hid (RS.raw ⟨l, 0⟩ n = ([], ⟨l, 1⟩)) := by simp [Hid, RS.raw, hneg]
      go_enter Try.func22, Try.ntmps22
      go_wp2
      go_ret
      rw [hfin.out]
      exact RawDone.empty (hR0.out.fault 0 1)
    · obtain ⟨k, rfl⟩ := Int.eq_ofNat_of_zero_le (show 0 ≤ n by omega)
      by_cases hs : (l.length : Int) < k
      · have hfin : Hid (RS.raw ⟨l, 0⟩ k = ([], ⟨l, 10⟩)) := by
          simp only [Hid, RS.raw]
          rw [if_neg (by simp), if_neg hneg, if_pos hs]
        go_enter Try.func22, Try.ntmps22
        go_wp2
        go_ret
        rw [hfin.out]
        exact RawDone.empty (hR0.out.fault 0 10)
      · have hfin : Hid (RS.raw ⟨l, 0⟩ k = (l.take k, ⟨l.drop k, 0⟩)) := by
          simp only [Hid, RS.raw]
          rw [if_neg (by simp), if_neg hneg, if_neg hs, Int.toNat_natCast]
        go_enter Try.func22, Try.ntmps22
        go_wp2_with (fail)
        refine (take_any S p ⟨l, 0⟩ k w hR0.out (by simp; omega)).mono ?_
        rintro e w1 ⟨ao1, cap1, D1, rfl, hV1, hD1, hR1⟩
        have HV1 := Lib.hid hV1
        have HR1 := Lib.hid hR1
        clear hV1 hR1
        go_wp2_with (fail)
        have hlen : (l.take k).length = k := by rw [List.length_take]; omega
        have hcl := clone_any D1 ao1 (l.take k) cap1 w1 HV1.out (by omega)
        unfold CloneDone at hcl
        rw [hlen] at hcl
        have HL := Lib.hid hlen
        refine hcl.mono ?_
        rintro e w2 ⟨ao2, cap2, T2, rfl, hr2, hs2⟩
        have HR2 := Lib.hid hr2
        clear hcl hr2 hlen
        go_wp2
        go_ret
        rw [hfin.out]
        exact RawDone.mk' HL.out HR1.out HR2.out hs2
  · have hfin : Hid (RS.raw ⟨l, err⟩ n = ([], ⟨l, err⟩)) := by simp [Hid, RS.raw, he]
    have he' : (err == 0) = false := by simp [he]
    go_enter Try.func22, Try.ntmps22
    go_wp2
    go_ret
    rw [hfin.out]
    exact RawDone.empty hR0.out.same

end Cod
end Go.Proofs.Ythbipankdbfdjaa
