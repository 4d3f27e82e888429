/- Layer 7: acts as plain data; page, bytes, few. -/
import Derived.Test.YtepllhfofhehaaaCpy
import Derived.Test.YtepllhfofhehaaaFlaM
import Derived.Lib.Hide
namespace Go.Proofs.Ytepllhfofhehaaa
open Go.RowKit Go.Own
namespace Fla
open Go.FlaM Byt

structure ActD where
  kind : UInt8
  seg : Int
  page : Int
  c : UInt8
  b : List UInt8
  n : Int
  fates : List Int

abbrev actVs (a : ActD) (vb vf : Value) : List Value := [.int .u8 (a.kind.toNat : Int), .int .i64 a.seg, .int .i64 a.page, .int .u8 (a.c.toNat : Int), vb, .int .i64 a.n, vf]
abbrev i64B (x : Int) : Prop := -9223372036854775808 ≤ x ∧ x ≤ 9223372036854775807
/-- numbers that came in -/
def IView (w : World) (B : Nat) (ao : Option Addr) (l : List Int) : Prop := l = [] ∨ ∃ b o, ao = some ⟨b, o, none⟩ ∧ b < B ∧ b < w.heap.size ∧ ∀ j, j < l.length → w.cell? ⟨b, o + j, none⟩ = some (.int .i64 (l.getD j 0)) ∧ i64B (l.getD j 0)
theorem IView.below {w w' : World} {B : Nat} {ao : Option Addr} {l : List Int} (h : IView w B ao l) (g : Below B w w') : IView w' B ao l := by
  rcases h with h | ⟨b, o, e, hb, hs, hc⟩
  · exact .inl h
  · exact .inr ⟨b, o, e, hb, Nat.lt_of_lt_of_le hs g.size, fun j hj => ⟨(World.cell?_of_block (w := w) (g.block b hb)).trans (hc j hj).1, (hc j hj).2⟩⟩
/-- an act in memory, below B -/
def inAct : InT ActD := fun a B w cs => ∃ ab cb af cf, cs = actVs a (.slice ab a.b.length cb) (.slice af a.fates.length cf) ∧ View w (fun k => k < B) ab a.b ∧ a.b.length ≤ cb ∧ cb ≤ maxLen ∧ (ab = none → cb = 0) ∧
  IView w B af a.fates ∧ a.fates.length ≤ cf ∧ cf ≤ maxLen ∧ (af = none → cf = 0) ∧ i64B a.seg ∧ i64B a.page ∧ i64B a.n
theorem stable_act : Stable inAct := fun _ _ _ _ _ ⟨ab, cb, af, cf, h1, h2, h3, h4, h5, h6, h7⟩ g => ⟨ab, cb, af, cf, h1, h2.below g, h3, h4, h5, h6.below g, h7⟩
theorem wf64 {a : Int} (h : (Lit.int .i64 a).wf = true) : i64B a := by
  simp [Lit.wf, IntKind.min, IntKind.max, IntKind.signed, IntKind.bits] at h
  unfold i64B
  omega
theorem opens_act : Opens Try.prog 35 inAct := by
  intro H enc w fuel cs x h
  obtain ⟨hl, hf⟩ := opens_fields (P := Try.prog) Try.underlying35 h
  rw [show Try.prog.cellsOf 35 = 7 by kernel_rfl] at hl
  match cs, hl with
  | [c0, c1, c2, c3, c4, c5, c6], _ =>
    obtain ⟨n0, y0, h0⟩ := hf 0 _ rfl
    obtain ⟨n1, y1, h1⟩ := hf 1 _ rfl
    obtain ⟨n2, y2, h2⟩ := hf 2 _ rfl
    obtain ⟨n3, y3, h3⟩ := hf 3 _ rfl
    obtain ⟨n4, y4, h4⟩ := hf 4 _ rfl
    obtain ⟨n5, y5, h5⟩ := hf 5 _ rfl
    obtain ⟨n6, y6, h6⟩ := hf 6 _ rfl
    obtain ⟨a0, e0, w0⟩ := opens_int (P := Try.prog) Try.underlying5 H enc w n0 _ y0 h0
    obtain ⟨a1, e1, w1⟩ := opens_int (P := Try.prog) Try.underlying3 H enc w n1 _ y1 h1
    obtain ⟨a2, e2, w2⟩ := opens_int (P := Try.prog) Try.underlying3 H enc w n2 _ y2 h2
    obtain ⟨a3, e3, w3⟩ := opens_int (P := Try.prog) Try.underlying5 H enc w n3 _ y3 h3
    obtain ⟨l, hb⟩ := opens_bytes (P := Try.prog) Try.underlying32 Try.underlying5 (by kernel_rfl) H enc w n4 _ y4 h4
    obtain ⟨a5, e5, w5⟩ := opens_int (P := Try.prog) Try.underlying3 H enc w n5 _ y5 h5
    obtain ⟨fs, hfs⟩ := opens_slice (P := Try.prog) 1 Try.underlying33 (by kernel_rfl) (by decide) (opens_int Try.underlying3) H enc w n6 _ y6 h6
    have k0 : Try.prog.cellsOf 5 = 1 := by kernel_rfl
    have k1 : Try.prog.cellsOf 3 = 1 := by kernel_rfl
    have k3 : Try.prog.cellsOf 32 = 1 := by kernel_rfl
    have k4 : Try.prog.cellsOf 33 = 1 := by kernel_rfl
    have e0' : c0 = .int .u8 a0 := by simpa [k0] using e0
    have e1' : c1 = .int .i64 a1 := by simpa [k1] using e1
    have e2' : c2 = .int .i64 a2 := by simpa [k1] using e2
    have e3' : c3 = .int .u8 a3 := by simpa [k0] using e3
    have e5' : c5 = .int .i64 a5 := by simpa [k1] using e5
    have hb' : inBytes l w.heap.size w [c4] := by simpa [k3] using hb
    have hf' : inSlice 1 (inInt .i64) fs w.heap.size w [c6] := by simpa [k4] using hfs
    subst e0' e1' e2' e3' e5'
    obtain ⟨ab, cb, q1, q2, q3, q4, q5⟩ := hb'
    obtain ⟨af, cf, r1, r2, r3, r4, r5⟩ := hf'
    obtain ⟨u0, hu0⟩ := u8_byte w0
    obtain ⟨u3, hu3⟩ := u8_byte w3
    simp only [List.cons.injEq, and_true] at q1 r1
    subst q1 r1 hu0 hu3
    refine ⟨⟨u0, a1, a2, u3, l, a5, fs⟩, ab, cb, af, cf, rfl, q5, q2, q3, q4, ?_, r2, r3, r4, wf64 w1, wf64 w2, wf64 w5⟩
    rcases r5 with rfl | ⟨b, o, e, g1, g2, g3⟩
    · exact .inl rfl
    · refine .inr ⟨b, o, e, g1, g2, fun j hj => ?_⟩
      obtain ⟨cs', f1, f2, f3, f4⟩ := g3 j hj
      have hc := f2 0 (by decide)
      subst f3
      rw [Nat.mul_one, Nat.add_zero] at hc
      have eg : fs.getD j 0 = fs[j] := by simp [List.getD, hj]
      rw [eg]
      exact ⟨hc, wf64 f4⟩

set_option maxHeartbeats 800000 in
theorem page_any (c : UInt8) {B : Nat} {w0 w : World} {Ps : List Asn} (H : Own.St B w0 w Ps) : Calls Try.prog 19 #[.int .u8 c.toNat] w fun e w' => ∃ g, e = .returned (.slice (some ⟨g, 0, none⟩) 128 128) ∧ Own.St B w0 w' (AB (some ⟨g, 0, none⟩) 128 128 (List.replicate 128 c) :: Ps) := by
  go_enter Try.func19, Try.ntmps19
  obtain ⟨w2, hmk, hst⟩ := ab_make H .i64 .i64 128 (by omega)
  obtain ⟨g, hg⟩ : ∃ g, g = w.heap.size := ⟨_, rfl⟩
  rw [← hg] at hmk hst
  have hmk2 : (Instr.makeSlice 32 (.int .i64 128) (.int .i64 128)).run Try.prog w = .ok (.slice (some ⟨g, 0, none⟩) 128 128) w2 := hmk
  have HST := Lib.hid hst
  clear hst hg H hmk
  go_wp2
  clear hmk2
  go_loopw [8] (fun v wr => ∃ k : Nat, k ≤ 128 ∧ v = .int .i64 (k : Int) ∧ Own.St B w0 wr (AB (some ⟨g, 0, none⟩) 128 128 (ones c 128 k) :: Ps)) (fun v _ => 128 - (intOf v).toNat)
  case atStart => exact ⟨0, Nat.zero_le _, rfl, by rw [ones_zero]; exact HST.out⟩
  case round =>
    obtain ⟨k, hk128, rfl, H⟩ := hrel
    have H := Lib.hid H
    clear HST
    by_cases hk : (k : Int) < 128
    · have hkn : k < 128 := by omega
      obtain ⟨g', hg', cb, fb, hput⟩ := ab_byte H.out 0 rfl k hkn
      cases hg'
      have PUT : Hid (Own.St B w0 (wr.setCell ⟨g, k, none⟩ (.int .u8 (c.toNat : Int))) (AB (some ⟨g, 0, none⟩) 128 128 (ones c 128 (k + 1)) :: Ps)) := by
        have h := hput c
        simp only [List.set_cons_zero] at h
        rw [ones_set c 128 k hkn] at h
        exact h
      clear hput H
      go_wp2
      go_roundw
      case rel => exact ⟨k + 1, by omega, by go_num, PUT.out⟩
      case measure => simp [intOf]; omega
    · have H2 : Hid (Own.St B w0 wr (AB (some ⟨g, 0, none⟩) 128 128 (List.replicate 128 c) :: Ps)) := by
        have h := H.out
        rw [show k = 128 by omega, ones_all] at h
        exact h
      clear H hk128
      go_wp2
      go_ret
      exact ⟨g, rfl, H2.out⟩

/-- what an act programs -/
def bytesOf (a : ActD) : List UInt8 := if 128 < a.b.length then a.b else a.b ++ (List.replicate 128 a.c).drop a.b.length
theorem bytesOf_len (a : ActD) : (bytesOf a).length = max a.b.length 128 := by
  unfold bytesOf
  split
  · omega
  · simp only [List.length_append, List.length_drop, List.length_replicate]; omega

/-- a slice that a call may read: one of its own objects, or old memory -/
structure Lies (B : Nat) (w : World) (Ps : List Asn) (ao : Option Addr) (n cap : Nat) (x : List UInt8) : Prop where
  given : Given w ao n cap x
  where_ : (∃ j : Nat, Ps[j]? = some (AB ao n cap x)) ∨ View w (fun k => k < B) ao x

set_option maxHeartbeats 1600000 in
theorem bytes_any (a : ActD) (ab af : Option Addr) (cb cf : Nat) {B : Nat} {w0 w : World} {Ps : List Asn} (H : Own.St B w0 w Ps) (hin : View w (fun k => k < B) ab a.b ∧ a.b.length ≤ cb ∧ cb ≤ maxLen ∧ (ab = none → cb = 0)) :
    Calls Try.prog 24 #[.agg (actVs a (.slice ab a.b.length cb) (.slice af a.fates.length cf)).toArray] w fun e w' => ∃ ao cap, e = .returned (.slice ao (bytesOf a).length cap) ∧
      ((a.b.length ≤ 128 ∧ Own.St B w0 w' (AB ao (bytesOf a).length cap (bytesOf a) :: Ps)) ∨ (128 < a.b.length ∧ ao = ab ∧ cap = cb ∧ Own.St B w0 w' Ps)) := by
  obtain ⟨m, hm⟩ : ∃ m, m = a.b.length := ⟨_, rfl⟩
  rw [← hm]
  have HM := Lib.hid hm
  have HIN := Lib.hid hin
  have hnone : Hid (ab = none → m = 0) := fun e => by have := hin.2.1; rw [hin.2.2.2 e] at this; omega
  obtain ⟨b, hb⟩ : ∃ b, b = w.heap.size := ⟨_, rfl⟩
  have hbox := H.boxV 35 (actVs a (.slice ab m cb) (.slice af a.fates.length cf))
  rw [← hb] at hbox
  have H1 := Lib.hid hbox
  have c3 := (H1.out.cellV 0 rfl 3 rfl).1
  have HVW := Lib.hid (fun wx (hwx : Below B w0 wx) => View.same hin.1 (Go.Own.Below.both H.below hwx))
  clear hm hin hbox
  go_enter Try.func24, Try.ntmps24
  go_wp2_with (fail)
  rw [← hb]
  clear hb
  refine (page_any a.c H1.out).mono ?_
  rintro e w2 ⟨g, rfl, h2⟩
  have H2 := Lib.hid h2
  have c4 := (H2.out.cellV 1 rfl 4 rfl).1
  clear h2 c3
  by_cases hlong : (128 : Int) < (m : Int)
  · have hlo : Hid (bytesOf a = a.b) := by
      show bytesOf a = a.b
      unfold bytesOf
      rw [if_pos (by rw [← HM.out]; omega)]
    go_wp2
    go_ret
    refine ⟨ab, cb, by rw [hlo.out, ← HM.out]; rfl, .inr ⟨by omega, rfl, rfl, H2.out.drop 2⟩⟩
  · have hsh : Hid (bytesOf a = a.b ++ (List.replicate 128 a.c).drop m) := by
      show bytesOf a = a.b ++ (List.replicate 128 a.c).drop m
      unfold bytesOf
      rw [if_neg (by rw [← HM.out]; omega), HM.out]
    have hlen : Hid ((bytesOf a).length = 128) := by show (bytesOf a).length = 128; rw [bytesOf_len, ← HM.out]; omega
    have hm128 : m ≤ 128 := by omega
    have HC := Lib.hid (vcells (HVW.out w2 H2.out.below))
    go_wp2_with (refine Byt.wpList_ab_copy rfl (.tmp 15) (.tmp 17) rfl H2.out 0 rfl rfl ab m cb a.b rfl HM.out.symm hm128 hnone.out HC.out ?_; intro w3 h3; simp only [List.set_cons_zero] at h3; have H3 := Lib.hid h3; clear h3)
    go_ret
    refine ⟨some ⟨g, 0, none⟩, 128, by rw [hlen.out]; rfl, .inl ⟨hm128, ?_⟩⟩
    rw [hlen.out, hsh.out]
    exact H3.out.drop2
end Fla
end Go.Proofs.Ytepllhfofhehaaa
