/- Layer 9: what the laws' arguments are in memory; the walks over them. -/
import Derived.Test.YtphdpjfkpidofaaLawPagF
import Derived.Test.YtphdpjfkpidofaaIn
namespace Go.Proofs.Ytphdpjfkpidofaa
open Go.RowKit Go.Own
namespace Pag
open Go.PagM Byt
def inFrm : InT Frm := fun f B w cs => ∃ ad cd, cs = [.int .u8 (f.kind.toNat : Int), .bool f.first, .bool f.last, .slice ad f.data.length cd] ∧ inBytes f.data B w [.slice ad f.data.length cd]
theorem opens_frm : Opens Try.prog 24 inFrm := by
  intro H enc w fuel cs x h
  obtain ⟨hl, hf⟩ := opens_fields (P := Try.prog) Try.underlying24 h
  rw [show Try.prog.cellsOf 24 = 4 by kernel_rfl] at hl
  match cs, hl with
  | [c0, c1, c2, c3], _ =>
    obtain ⟨n0, y0, h0⟩ := hf 0 _ rfl
    obtain ⟨n1, y1, h1⟩ := hf 1 _ rfl
    obtain ⟨n2, y2, h2⟩ := hf 2 _ rfl
    obtain ⟨n3, y3, h3⟩ := hf 3 _ rfl
    obtain ⟨a0, e0, w0⟩ := opens_int (P := Try.prog) Try.underlying5 H enc w n0 _ y0 h0
    obtain ⟨a1, e1⟩ := opens_bool (P := Try.prog) Try.underlying4 H enc w n1 _ y1 h1
    obtain ⟨a2, e2⟩ := opens_bool (P := Try.prog) Try.underlying4 H enc w n2 _ y2 h2
    obtain ⟨l, hb⟩ := opens_bytes (P := Try.prog) Try.underlying22 Try.underlying5 (by kernel_rfl) H enc w n3 _ y3 h3
    have k0 : Try.prog.cellsOf 5 = 1 := by kernel_rfl
    have k1 : Try.prog.cellsOf 4 = 1 := by kernel_rfl
    have k3 : Try.prog.cellsOf 22 = 1 := by kernel_rfl
    have e0' : c0 = .int .u8 a0 := by simpa [k0] using e0
    have e1' : c1 = .bool a1 := by simpa [k1, inBool] using e1
    have e2' : c2 = .bool a2 := by simpa [k1, inBool] using e2
    have hb' : inBytes l w.heap.size w [c3] := by simpa [k3] using hb
    subst e0' e1' e2'
    have hb2 := hb'
    obtain ⟨ab, cb, q1, q2, q3, q4, q5⟩ := hb'
    obtain ⟨u0, hu0⟩ := u8_byte w0
    simp only [List.cons.injEq, and_true] at q1
    subst q1 hu0
    exact ⟨⟨u0, a1, a2, l⟩, ab, cb, rfl, hb2⟩
theorem frm_given {f : Frm} {w : World} {vs : Array Value} (h : inFrm f w.heap.size w vs.toList) : ∃ ad cd, (Value.agg vs) = frV f.kind.toNat f.first f.last (.slice ad f.data.length cd) ∧ Given w ad f.data.length cd f.data := by
  obtain ⟨ad, cd, e, g⟩ := h
  refine ⟨ad, cd, ?_, in_given g⟩
  have : vs = #[.int .u8 (f.kind.toNat : Int), .bool f.first, .bool f.last, .slice ad f.data.length cd] := by rw [← Array.toArray_toList (xs := vs), e]
  rw [this]
theorem bss_given {L : List PagM.Bs} {w : World} {ao : Option Addr} {n cap : Nat} (h : inSlice 1 inBytes L w.heap.size w [.slice ao n cap]) : GivenL w ao n cap L := by
  obtain ⟨ao', cap', h1, h2, h3, h4, h5⟩ := h
  simp only [List.cons.injEq, Value.slice.injEq, and_true] at h1
  obtain ⟨rfl, rfl, rfl⟩ := h1
  refine ⟨rfl, ⟨h2, h3⟩, h4, fun j hj => ?_⟩
  rcases h5 with rfl | ⟨b, o, e, hb, hs, hc⟩
  · exact absurd hj (Nat.not_lt_zero _)
  · obtain ⟨cs', k1, k2, k3⟩ := hc j hj
    have g := k3
    obtain ⟨aj, cj, rfl, _⟩ := k3
    have e1 : L.getD j [] = L[j] := by rw [List.getD_eq_getElem?_getD, List.getElem?_eq_getElem hj]; rfl
    rw [e1]
    have hcell := k2 0 (by omega)
    rw [Nat.mul_one, Nat.add_zero] at hcell
    exact ⟨b, o, aj, cj, e, hs, hcell, in_given g⟩
/-! ### the walks over what came in -/
theorem in_lays (vs : Array Value) (f : Frm) {w : World} (h : inFrm f w.heap.size w vs.toList) (K : Kept w) : Calls Try.prog 3 #[.agg vs] w (RetYes w) := by
  obtain ⟨ad, cd, e, g⟩ := frm_given h
  rw [e]
  exact walk_lays f ad _ cd g K
theorem in_takes (ao : Option Addr) (n cap : Nat) (p : PagM.Bs) {w : World} (h : inBytes p w.heap.size w [.slice ao n cap]) (K : Kept w) : Calls Try.prog 4 #[.slice ao n cap] w (RetYes w) := walk_takes ao n cap p (in_given h) K
theorem in_splits (k : Int) (hk : (Lit.int .u8 k).wf = true) (ao : Option Addr) (n cap : Nat) (p : PagM.Bs) {w : World} (h : inBytes p w.heap.size w [.slice ao n cap]) (K : Kept w) : Calls Try.prog 5 #[.int .u8 k, .slice ao n cap] w (RetYes w) := by
  obtain ⟨c, rfl⟩ := u8_byte hk
  exact walk_splits c ao n cap p (in_given h) K
theorem in_joins (ao : Option Addr) (n cap : Nat) (L : List PagM.Bs) {w : World} (h : inSlice 1 inBytes L w.heap.size w [.slice ao n cap]) (K : Kept w) : Calls Try.prog 6 #[.slice ao n cap] w (RetYes w) := walk_joins ao n cap L (bss_given h) K
theorem in_back (vs : Array Value) (f : Frm) (ao : Option Addr) (n cap : Nat) (p : PagM.Bs) {w : World} (h : inFrm f w.heap.size w vs.toList) (h2 : inBytes p w.heap.size w [.slice ao n cap]) (K : Kept w) : Calls Try.prog 7 #[.agg vs, .slice ao n cap] w (RetYes w) := by
  obtain ⟨ad, cd, e, g⟩ := frm_given h
  rw [e]
  exact walk_back f ad _ cd ao n cap p g (in_given h2) K
theorem in_torn (vs : Array Value) (f : Frm) (k : Int) (hk : (Lit.int .u8 k).wf = true) {w : World} (h : inFrm f w.heap.size w vs.toList) (K : Kept w) : Calls Try.prog 9 #[.agg vs, .int .u8 k] w (RetYes w) := by
  obtain ⟨ad, cd, e, g⟩ := frm_given h
  obtain ⟨c, rfl⟩ := u8_byte hk
  rw [e]
  exact walk_torn f ad _ cd c g K
theorem in_counts (k : Int) (hk : (Lit.int .u8 k).wf = true) (ao : Option Addr) (n cap : Nat) (p : PagM.Bs) {w : World} (h : inBytes p w.heap.size w [.slice ao n cap]) (K : Kept w) : Calls Try.prog 10 #[.int .u8 k, .slice ao n cap] w (RetYes w) := by
  obtain ⟨c, rfl⟩ := u8_byte hk
  exact walk_counts c ao n cap p (in_given h) K
theorem in_whole (k : Int) (hk : (Lit.int .u8 k).wf = true) (ao : Option Addr) (n cap : Nat) (p : PagM.Bs) (ab : Option Addr) (nb cb : Nat) (L : List PagM.Bs) (q : Int) (hq : (Lit.int .u8 q).wf = true) {w : World} (h : inBytes p w.heap.size w [.slice ao n cap]) (h2 : inSlice 1 inBytes L w.heap.size w [.slice ab nb cb]) (K : Kept w) :
    Calls Try.prog 8 #[.int .u8 k, .slice ao n cap, .slice ab nb cb, .int .u8 q] w (RetYes w) := by
  obtain ⟨c, rfl⟩ := u8_byte hk
  obtain ⟨d, rfl⟩ := u8_byte hq
  exact walk_whole c ao n cap p ab nb cb L d (in_given h) (bss_given h2) K
end Pag
end Go.Proofs.Ytphdpjfkpidofaa
