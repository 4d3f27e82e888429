/- Layer 10: what a note is in memory that came in. -/
import Derived.Test.YtefbcoakjdjkgaaRecQ
import Derived.Test.YtefbcoakjdjkgaaIn
namespace Go.Proofs.Ytefbcoakjdjkgaa
open Go.RowKit Go.Own
namespace Rec
open Go.RecM Byt
def inKey : InT (RecM.Bs × Nat) := fun k _ _ cs => cs = keyC k.1 k.2 ∧ k.1.length = 32 ∧ k.2 < 4294967296
theorem nat_u32 {a : Int} (h : (Lit.int .u32 a).wf = true) : ∃ u : Nat, a = u ∧ u < 4294967296 := by
  have : 0 ≤ a ∧ a < 4294967296 := by
    have : 0 ≤ a ∧ a ≤ 4294967295 := by simpa [Lit.wf, IntKind.min, IntKind.max, IntKind.signed, IntKind.bits] using h
    omega
  exact ⟨a.toNat, by omega, by omega⟩
theorem nat_u64 {a : Int} (h : (Lit.int .u64 a).wf = true) : ∃ u : Nat, a = u ∧ u < 18446744073709551616 := by
  have : 0 ≤ a ∧ a < 18446744073709551616 := by
    have : 0 ≤ a ∧ a ≤ 18446744073709551615 := by simpa [Lit.wf, IntKind.min, IntKind.max, IntKind.signed, IntKind.bits] using h
    omega
  exact ⟨a.toNat, by omega, by omega⟩
theorem opens_key : Opens Try.prog 27 inKey := by
  intro H enc w fuel cs x h
  obtain ⟨hl, hf⟩ := opens_fields (P := Try.prog) Try.underlying27 h
  rw [show Try.prog.cellsOf 27 = 33 by kernel_rfl] at hl
  obtain ⟨n0, y0, h0⟩ := hf 0 _ rfl
  obtain ⟨n1, y1, h1⟩ := hf 1 _ rfl
  obtain ⟨s, hs⟩ := opens_bytesA (P := Try.prog) (n := 32) Try.underlying25 Try.underlying5 (by kernel_rfl) (by kernel_rfl) H enc w n0 _ y0 h0
  obtain ⟨a1, e1, w1⟩ := opens_int (P := Try.prog) Try.underlying22 H enc w n1 _ y1 h1
  obtain ⟨hs1, hs2⟩ := hs
  obtain ⟨u, rfl, hu⟩ := nat_u32 w1
  have k0 : Try.prog.cellsOf 25 = 32 := by kernel_rfl
  have k1 : Try.prog.cellsOf 22 = 1 := by kernel_rfl
  refine ⟨(s, u), ?_, hs2, hu⟩
  show cs = keyC s u
  have f0 : cs.take 32 = s.map byteV := by simpa [k0] using hs1
  have f1 : (cs.drop 32).take 1 = [.int .u32 (u : Int)] := by simpa [k1] using e1
  unfold keyC
  rw [← f0, ← f1, List.take_of_length_le (l := cs.drop 32) (by simp [hl]), List.take_append_drop]
theorem split37 (cs : List Value) (h : cs.length = 37) : cs = cs.take 1 ++ ((cs.drop 1).take 1 ++ ((cs.drop 2).take 1 ++ ((cs.drop 3).take 33 ++ (cs.drop 36).take 1))) := by
  have e4 : (cs.drop 36).take 1 = cs.drop 36 := List.take_of_length_le (by simp [h])
  have e3 : (cs.drop 3).take 33 ++ cs.drop 36 = cs.drop 3 := by
    have := List.take_append_drop 33 (cs.drop 3)
    rwa [List.drop_drop] at this
  have e2 : (cs.drop 2).take 1 ++ cs.drop 3 = cs.drop 2 := by
    have := List.take_append_drop 1 (cs.drop 2)
    rwa [List.drop_drop] at this
  have e1 : (cs.drop 1).take 1 ++ cs.drop 2 = cs.drop 1 := by
    have := List.take_append_drop 1 (cs.drop 1)
    rwa [List.drop_drop] at this
  rw [e4, e3, e2, e1, List.take_append_drop]
def inNte : InT Nte := fun n B w cs => ∃ ad cd, cs = ntC n (.slice ad n.data.length cd) ∧ inBytes n.data B w [.slice ad n.data.length cd] ∧ Fits n
theorem opens_nte : Opens Try.prog 30 inNte := by
  intro H enc w fuel cs x h
  obtain ⟨hl, hf⟩ := opens_fields (P := Try.prog) Try.underlying30 h
  rw [show Try.prog.cellsOf 30 = 37 by kernel_rfl] at hl
  obtain ⟨n0, y0, h0⟩ := hf 0 _ rfl
  obtain ⟨n1, y1, h1⟩ := hf 1 _ rfl
  obtain ⟨n2, y2, h2⟩ := hf 2 _ rfl
  obtain ⟨n3, y3, h3⟩ := hf 3 _ rfl
  obtain ⟨n4, y4, h4⟩ := hf 4 _ rfl
  obtain ⟨a0, e0, w0⟩ := opens_int (P := Try.prog) Try.underlying5 H enc w n0 _ y0 h0
  obtain ⟨a1, e1, w1⟩ := opens_int (P := Try.prog) Try.underlying22 H enc w n1 _ y1 h1
  obtain ⟨a2, e2, w2⟩ := opens_int (P := Try.prog) Try.underlying23 H enc w n2 _ y2 h2
  obtain ⟨k, hk, hk1, hk2⟩ := opens_key H enc w n3 _ y3 h3
  obtain ⟨l, hb⟩ := opens_bytes (P := Try.prog) Try.underlying28 Try.underlying5 (by kernel_rfl) H enc w n4 _ y4 h4
  have k0 : Try.prog.cellsOf 5 = 1 := by kernel_rfl
  have k1 : Try.prog.cellsOf 22 = 1 := by kernel_rfl
  have k2 : Try.prog.cellsOf 23 = 1 := by kernel_rfl
  have k3 : Try.prog.cellsOf 27 = 33 := by kernel_rfl
  have k4 : Try.prog.cellsOf 28 = 1 := by kernel_rfl
  obtain ⟨c, rfl⟩ := u8_byte w0
  obtain ⟨ad, rfl, had⟩ := nat_u32 w1
  obtain ⟨sq, rfl, hsq⟩ := nat_u64 w2
  have f0 : cs.take 1 = [.int .u8 (c.toNat : Int)] := by simpa [k0] using e0
  have f1 : (cs.drop 1).take 1 = [.int .u32 (ad : Int)] := by simpa [k1] using e1
  have f2 : (cs.drop 2).take 1 = [.int .u64 (sq : Int)] := by simpa [k2] using e2
  have f3 : (cs.drop 3).take 33 = keyC k.1 k.2 := by simpa [k3] using hk
  have hb' : inBytes l w.heap.size w ((cs.drop 36).take 1) := by simpa [k4] using hb
  have hbb := hb'
  obtain ⟨ab, cb, q1, q2, q3, q4, q5⟩ := hb'
  rw [q1] at hbb
  refine ⟨⟨c, ad, sq, k.1, k.2, l⟩, ab, cb, ?_, hbb, ⟨had, hsq, hk1, hk2⟩⟩
  unfold ntC
  simp only
  rw [← f3, ← q1]
  have h37 := split37 cs hl
  rw [f0, f1, f2] at h37
  exact h37
theorem nte_given {n : Nte} {w : World} {vs : Array Value} (h : inNte n w.heap.size w vs.toList) : ∃ ad cd, (Value.agg vs) = ntV n (.slice ad n.data.length cd) ∧ Given w ad n.data.length cd n.data ∧ Fits n := by
  obtain ⟨ad, cd, e, g, f⟩ := h
  refine ⟨ad, cd, ?_, in_given g, f⟩
  unfold ntV
  rw [← e]
end Rec
end Go.Proofs.Ytefbcoakjdjkgaa
