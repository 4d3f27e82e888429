/- Layer 8: acts as plain data, the list of them; block, bytes, few. -/
import Derived.Test.YtkddeccgoamopaaCpy
import Derived.Test.YtkddeccgoamopaaBakM
import Derived.Test.YtkddeccgoamopaaGiv
import Derived.Lib.Hide
namespace Go.Proofs.Ytkddeccgoamopaa
open Go.RowKit Go.Own
namespace Bak
open Go.BakM Byt

structure ActD where
  kind : UInt8
  pos : Int
  n : Int
  c : UInt8
  short : Bool
  there : Nat
abbrev i64A (x : Int) : Prop := -9223372036854775808 ≤ x ∧ x ≤ 9223372036854775807
abbrev actVs (a : ActD) : List Value := [.int .u8 (a.kind.toNat : Int), .int .i64 a.pos, .int .i64 a.n, .int .u8 (a.c.toNat : Int), .bool a.short, .int .u64 (a.there : Int)]
structure ActD.Fits (a : ActD) : Prop where
  pos : i64A a.pos
  n : i64A a.n
  there : a.there ≤ 18446744073709551615
/-- an act in memory -/
def inAct : InT ActD := fun a _ _ cs => cs = actVs a ∧ a.Fits
theorem stable_act : Stable inAct := fun _ _ _ _ _ h _ => h
theorem wfI {a : Int} (h : (Lit.int .i64 a).wf = true) : i64A a := by
  simp [Lit.wf, IntKind.min, IntKind.max, IntKind.signed, IntKind.bits] at h
  unfold i64A
  omega
theorem wfU {a : Int} (h : (Lit.int .u64 a).wf = true) : ∃ n : Nat, a = (n : Int) ∧ n ≤ 18446744073709551615 := by
  simp [Lit.wf, IntKind.min, IntKind.max, IntKind.signed, IntKind.bits] at h
  exact ⟨a.toNat, by omega, by omega⟩
theorem opens_act : Opens Try.prog 34 inAct := by
  intro H enc w fuel cs x h
  obtain ⟨hl, hf⟩ := opens_fields (P := Try.prog) Try.underlying34 h
  rw [show Try.prog.cellsOf 34 = 6 by kernel_rfl] at hl
  match cs, hl with
  | [c0, c1, c2, c3, c4, c5], _ =>
    obtain ⟨n0, y0, h0⟩ := hf 0 _ rfl
    obtain ⟨n1, y1, h1⟩ := hf 1 _ rfl
    obtain ⟨n2, y2, h2⟩ := hf 2 _ rfl
    obtain ⟨n3, y3, h3⟩ := hf 3 _ rfl
    obtain ⟨n4, y4, h4⟩ := hf 4 _ rfl
    obtain ⟨n5, y5, h5⟩ := hf 5 _ rfl
    obtain ⟨a0, e0, w0⟩ := opens_int (P := Try.prog) Try.underlying5 H enc w n0 _ y0 h0
    obtain ⟨a1, e1, w1⟩ := opens_int (P := Try.prog) Try.underlying3 H enc w n1 _ y1 h1
    obtain ⟨a2, e2, w2⟩ := opens_int (P := Try.prog) Try.underlying3 H enc w n2 _ y2 h2
    obtain ⟨a3, e3, w3⟩ := opens_int (P := Try.prog) Try.underlying5 H enc w n3 _ y3 h3
    obtain ⟨a4, e4⟩ := opens_bool (P := Try.prog) Try.underlying4 H enc w n4 _ y4 h4
    obtain ⟨a5, e5, w5⟩ := opens_int (P := Try.prog) Try.underlying32 H enc w n5 _ y5 h5
    have k0 : Try.prog.cellsOf 5 = 1 := by kernel_rfl
    have k1 : Try.prog.cellsOf 3 = 1 := by kernel_rfl
    have k4 : Try.prog.cellsOf 4 = 1 := by kernel_rfl
    have k5 : Try.prog.cellsOf 32 = 1 := by kernel_rfl
    have e0' : c0 = .int .u8 a0 := by simpa [k0] using e0
    have e1' : c1 = .int .i64 a1 := by simpa [k1] using e1
    have e2' : c2 = .int .i64 a2 := by simpa [k1] using e2
    have e3' : c3 = .int .u8 a3 := by simpa [k0] using e3
    have e4' : c4 = .bool a4 := by simpa [inBool, k4] using e4
    have e5' : c5 = .int .u64 a5 := by simpa [k5] using e5
    subst e0' e1' e2' e3' e4' e5'
    obtain ⟨u0, hu0⟩ := u8_byte w0
    obtain ⟨u3, hu3⟩ := u8_byte w3
    obtain ⟨u5, hu5, b5⟩ := wfU w5
    subst hu0 hu3 hu5
    exact ⟨⟨u0, a1, a2, u3, a4, u5⟩, rfl, wfI w1, wfI w2, b5⟩

/-- one act of a list, in any world in which old memory is as it was -/
structure ActAt (w : World) (b o : Nat) (a : ActD) : Prop where
  c0 : w.cell? ⟨b, o, none⟩ = some (.int .u8 (a.kind.toNat : Int))
  c1 : w.cell? ⟨b, o + 1, none⟩ = some (.int .i64 a.pos)
  c2 : w.cell? ⟨b, o + 2, none⟩ = some (.int .i64 a.n)
  c3 : w.cell? ⟨b, o + 3, none⟩ = some (.int .u8 (a.c.toNat : Int))
  c4 : w.cell? ⟨b, o + 4, none⟩ = some (.bool a.short)
  c5 : w.cell? ⟨b, o + 5, none⟩ = some (.int .u64 (a.there : Int))
  fits : a.Fits
theorem acts_in {l : List ActD} {B : Nat} {w : World} {ao : Option Addr} {n cap : Nat} (h : inSlice 6 inAct l B w [.slice ao n cap]) :
    n = l.length ∧ n ≤ cap ∧ cap ≤ maxLen ∧ (ao = none → cap = 0) ∧ (l ≠ [] → ∃ b o, ao = some ⟨b, o, none⟩ ∧ b < B ∧ ∀ w', (∀ k, k < B → w'.heap[k]? = w.heap[k]?) → ∀ k (hk : k < l.length), ActAt w' b (o + k * 6) l[k]) := by
  obtain ⟨ao', cap', h1, h2, h3, h4, h5⟩ := h
  simp only [List.cons.injEq, Value.slice.injEq, and_true] at h1
  obtain ⟨rfl, rfl, rfl⟩ := h1
  refine ⟨rfl, h2, h3, h4, fun hne => ?_⟩
  rcases h5 with rfl | ⟨b, o, e, hb, hs, hc⟩
  · exact absurd rfl hne
  · refine ⟨b, o, e, hb, fun w' hw' k hk => ?_⟩
    obtain ⟨cs', g1, g2, g3⟩ := hc k hk
    obtain ⟨rfl, q6⟩ := g3
    have hcell : ∀ j, j < 6 → w'.cell? ⟨b, o + (k * 6 + j), none⟩ = (actVs l[k])[j]? := fun j hj => (World.cell?_of_block (w := w) (hw' b hb)).trans (g2 j hj)
    refine ⟨?_, ?_, ?_, ?_, ?_, ?_, q6⟩
    · exact hcell 0 (by decide)
    · have := hcell 1 (by decide); rw [← Nat.add_assoc] at this; exact this
    · have := hcell 2 (by decide); rw [← Nat.add_assoc] at this; exact this
    · have := hcell 3 (by decide); rw [← Nat.add_assoc] at this; exact this
    · have := hcell 4 (by decide); rw [← Nat.add_assoc] at this; exact this
    · have := hcell 5 (by decide); rw [← Nat.add_assoc] at this; exact this

theorem few_any (ao : Option Addr) (n cap : Nat) (hn : n ≤ cap) (hc : cap ≤ maxLen) (w : World) :
    Calls Try.prog 11 #[.slice ao n cap] w fun e w' => e = .returned (.slice ao (min n 100) cap) ∧ w = w' := by
  unfold maxLen at hc
  obtain ⟨k, hk⟩ : ∃ k, k = min n 100 := ⟨_, rfl⟩
  have hmin : ∀ wx, (Builtin.min_ #[3, 3] 3 #[.int .i64 (n : Int), .int .i64 100]).run Try.prog wx = .ok (.int .i64 (k : Int)) wx := by
    intro wx
    rw [show (k : Int) = min (n : Int) 100 by omega]
    simp [Builtin.min_, Builtin.min2, go_sem]
    try omega
  have hkn : k ≤ n := by omega
  have hkc : k ≤ cap := by omega
  rw [← hk]
  clear hk
  go_enter Try.func11, Try.ntmps11
  go_wp2
  go_ret
  exact ⟨rfl, rfl⟩

set_option maxRecDepth 4000 in
set_option maxHeartbeats 800000 in
theorem block_any (c : UInt8) {B : Nat} {w0 w : World} {Ps : List Asn} (H : Own.St B w0 w Ps) : Calls Try.prog 15 #[.int .u8 c.toNat] w fun e w' => ∃ g, e = .returned (.slice (some ⟨g, 0, none⟩) 256 256) ∧ Own.St B w0 w' (AB (some ⟨g, 0, none⟩) 256 256 (List.replicate 256 c) :: Ps) := by
  go_enter Try.func15, Try.ntmps15
  obtain ⟨w2, hmk, hst⟩ := ab_make H .i64 .i64 256 (by omega)
  obtain ⟨g, hg⟩ : ∃ g, g = w.heap.size := ⟨_, rfl⟩
  rw [← hg] at hmk hst
  have hmk2 : (Instr.makeSlice 38 (.int .i64 256) (.int .i64 256)).run Try.prog w = .ok (.slice (some ⟨g, 0, none⟩) 256 256) w2 := hmk
  have HST := Lib.hid hst
  clear hst hg H hmk
  go_wp2
  clear hmk2
  go_loopw [8] (fun v wr => ∃ k : Nat, k ≤ 256 ∧ v = .int .i64 (k : Int) ∧ Own.St B w0 wr (AB (some ⟨g, 0, none⟩) 256 256 (ones c 256 k) :: Ps)) (fun v _ => 256 - (intOf v).toNat)
  case atStart => exact ⟨0, Nat.zero_le _, rfl, by rw [ones_zero]; exact HST.out⟩
  case round =>
    obtain ⟨k, hk256, rfl, H⟩ := hrel
    have H := Lib.hid H
    clear HST
    by_cases hk : (k : Int) < 256
    · have hkn : k < 256 := by omega
      obtain ⟨g', hg', cb, fb, hput⟩ := ab_byte H.out 0 rfl k hkn
      cases hg'
      have PUT : Hid (Own.St B w0 (wr.setCell ⟨g, k, none⟩ (.int .u8 (c.toNat : Int))) (AB (some ⟨g, 0, none⟩) 256 256 (ones c 256 (k + 1)) :: Ps)) := by
        have h := hput c
        simp only [List.set_cons_zero] at h
        rw [ones_set c 256 k hkn] at h
        exact h
      clear hput H
      go_wp2
      go_roundw
      case rel => exact ⟨k + 1, by omega, by go_num, PUT.out⟩
      case measure => simp [intOf]; omega
    · have H2 : Hid (Own.St B w0 wr (AB (some ⟨g, 0, none⟩) 256 256 (List.replicate 256 c) :: Ps)) := by
        have h := H.out
        rw [show k = 256 by omega, ones_all] at h
        exact h
      clear H hk256
      go_wp2
      go_ret
      exact ⟨g, rfl, H2.out⟩

/-- what an act writes: all but so many bytes of a block -/
def gapOf (a : ActD) : Nat := if a.short then 1 else 0
def bytesOf (a : ActD) : List UInt8 := List.replicate (256 - gapOf a) a.c
theorem gap_le (a : ActD) : gapOf a ≤ 1 := by unfold gapOf; split <;> omega
set_option maxHeartbeats 1600000 in
theorem bytes_any (a : ActD) {B : Nat} {w0 w : World} {Ps : List Asn} (H : Own.St B w0 w Ps) :
    Calls Try.prog 24 #[.agg (actVs a).toArray] w fun e w' => ∃ g, e = .returned (.slice (some ⟨g, gapOf a, none⟩) (256 - gapOf a) (256 - gapOf a)) ∧ Own.St B w0 w' (AB (some ⟨g, 0, none⟩) 256 256 (List.replicate 256 a.c) :: Ps) := by
  obtain ⟨ak, ap, an, ac, ash, au⟩ := a
  obtain ⟨b, hb⟩ : ∃ b, b = w.heap.size := ⟨_, rfl⟩
  cases ash with
  | true =>
    have hbox := H.boxV 34 (actVs ⟨ak, ap, an, ac, true, au⟩)
    rw [← hb] at hbox
    have H1 := Lib.hid hbox
    have c3 := (H1.out.cellV 0 rfl 3 rfl).1
    have c4 := (H1.out.cellV 0 rfl 4 rfl).1
    clear hbox H
    have hgp : Hid (gapOf ⟨ak, ap, an, ac, true, au⟩ = 1) := rfl
    go_enter Try.func24, Try.ntmps24
    rw [hb] at c3 c4
    go_wp2_with (fail)
    rw [← hb]
    clear hb
    refine (block_any ac H1.out).mono ?_
    rintro e w2 ⟨g, rfl, h2⟩
    have H3 := Lib.hid h2
    clear h2 c3 c4
    go_wp2
    go_ret
    exact ⟨g, by rw [hgp.out]; rfl, H3.out.drop2⟩
  | false =>
    have hbox := H.boxV 34 (actVs ⟨ak, ap, an, ac, false, au⟩)
    rw [← hb] at hbox
    have H1 := Lib.hid hbox
    have c3 := (H1.out.cellV 0 rfl 3 rfl).1
    have c4 := (H1.out.cellV 0 rfl 4 rfl).1
    clear hbox H
    have hgp : Hid (gapOf ⟨ak, ap, an, ac, false, au⟩ = 0) := rfl
    go_enter Try.func24, Try.ntmps24
    rw [hb] at c3 c4
    go_wp2_with (fail)
    rw [← hb]
    clear hb
    refine (block_any ac H1.out).mono ?_
    rintro e w2 ⟨g, rfl, h2⟩
    have H3 := Lib.hid h2
    clear h2 c3 c4
    go_wp2
    go_ret
    exact ⟨g, by rw [hgp.out]; rfl, H3.out.drop2⟩
end Bak
end Go.Proofs.Ytkddeccgoamopaa
