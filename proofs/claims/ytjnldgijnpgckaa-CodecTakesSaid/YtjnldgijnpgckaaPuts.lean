/- The lists of layer 1's statements: what is laid and what is taken, as plain data in memory; 'few'. -/
import Derived.Test.YtjnldgijnpgckaaIn
import Derived.Test.YtjnldgijnpgckaaCod
namespace Go.Proofs.Ytjnldgijnpgckaa
open Go.RowKit Go.Own
namespace Cod

structure PutD where
  kind : Int
  n : Int
  many : Int
  b : List UInt8

def inPut : InT PutD := fun p B w cs =>
  ∃ v, cs = [.int .u8 p.kind, .int .u64 p.n, .int .i64 p.many, v] ∧ (0 ≤ p.kind ∧ p.kind ≤ 255) ∧ (0 ≤ p.n ∧ p.n ≤ 18446744073709551615) ∧ (-9223372036854775808 ≤ p.many ∧ p.many ≤ 9223372036854775807) ∧ inBytes p.b B w [v]

theorem stable_put : Stable inPut := fun _ _ _ _ _ ⟨v, h1, h2, h3, h4, h5⟩ g => ⟨v, h1, h2, h3, h4, stable_bytes _ _ _ _ _ h5 g⟩

theorem opens_put : Opens Try.prog 34 inPut := by
  intro H enc w fuel cs x h
  obtain ⟨hl, hf⟩ := opens_fields (P := Try.prog) Try.underlying34 h
  rw [show Try.prog.cellsOf 34 = 4 by kernel_rfl] at hl
  match cs, hl with
  | [c0, c1, c2, c3], _ =>
    obtain ⟨n0, y0, h0⟩ := hf 0 _ rfl
    obtain ⟨n1, y1, h1⟩ := hf 1 _ rfl
    obtain ⟨n2, y2, h2⟩ := hf 2 _ rfl
    obtain ⟨n3, y3, h3⟩ := hf 3 _ rfl
    obtain ⟨a0, e0, w0⟩ := opens_int (P := Try.prog) Try.underlying5 H enc w n0 _ y0 h0
    obtain ⟨a1, e1, w1⟩ := opens_int (P := Try.prog) Try.underlying32 H enc w n1 _ y1 h1
    obtain ⟨a2, e2, w2⟩ := opens_int (P := Try.prog) Try.underlying3 H enc w n2 _ y2 h2
    obtain ⟨l, hb⟩ := opens_bytes (P := Try.prog) Try.underlying27 Try.underlying5 (by kernel_rfl) H enc w n3 _ y3 h3
    have k0 : Try.prog.cellsOf 5 = 1 := by kernel_rfl
    have k1 : Try.prog.cellsOf 32 = 1 := by kernel_rfl
    have k2 : Try.prog.cellsOf 3 = 1 := by kernel_rfl
    have k3 : Try.prog.cellsOf 27 = 1 := by kernel_rfl
    have e0' : c0 = .int .u8 a0 := by simpa [k0] using e0
    have e1' : c1 = .int .u64 a1 := by simpa [k1] using e1
    have e2' : c2 = .int .i64 a2 := by simpa [k2] using e2
    have hb' : inBytes l w.heap.size w [c3] := by simpa [k3] using hb
    subst e0' e1' e2'
    exact ⟨⟨a0, a1, a2, l⟩, c3, rfl, by simpa [Lit.wf, IntKind.min, IntKind.max, IntKind.signed, IntKind.bits] using w0, by simpa [Lit.wf, IntKind.min, IntKind.max, IntKind.signed, IntKind.bits] using w1, by simpa [Lit.wf, IntKind.min, IntKind.max, IntKind.signed, IntKind.bits] using w2, hb'⟩

/-- how many of them are few -/
def fewN : Nat → Nat → List PutD → Nat
  | _, _, [] => 0
  | left, i, p :: r => if 200 ≤ i ∨ left < p.b.length then 0 else 1 + fewN (left - p.b.length) (i + 1) r

theorem fewN_le : ∀ (ps : List PutD) (left i : Nat), fewN left i ps ≤ ps.length
  | [], _, _ => Nat.le_refl _
  | p :: r, left, i => by
    unfold fewN
    split
    · exact Nat.zero_le _
    · have := fewN_le r (left - p.b.length) (i + 1); simp; omega

/-- the cells of one of them -/
theorem put_cells {ps : List PutD} {B : Nat} {w : World} {ao : Option Addr} {n cap : Nat} (h : inSlice 4 inPut ps B w [.slice ao n cap]) :
    n = ps.length ∧ n ≤ cap ∧ cap ≤ maxLen ∧ (ps ≠ [] → ∃ b o, ao = some ⟨b, o, none⟩ ∧ b < B ∧ b < w.heap.size ∧ ∀ k (hk : k < ps.length), ∃ (c : Option Addr) (cp : Nat),
      w.cell? ⟨b, o + k * 4, none⟩ = some (.int .u8 ps[k].kind) ∧ w.cell? ⟨b, o + k * 4 + 1, none⟩ = some (.int .u64 ps[k].n) ∧ w.cell? ⟨b, o + k * 4 + 2, none⟩ = some (.int .i64 ps[k].many) ∧
      w.cell? ⟨b, o + k * 4 + 3, none⟩ = some (.slice c ps[k].b.length cp) ∧ (0 ≤ ps[k].kind ∧ ps[k].kind ≤ 255) ∧ (0 ≤ ps[k].n ∧ ps[k].n ≤ 18446744073709551615) ∧ (-9223372036854775808 ≤ ps[k].many ∧ ps[k].many ≤ 9223372036854775807) ∧
      ps[k].b.length ≤ cp ∧ cp ≤ maxLen ∧ (c = none → cp = 0) ∧ View w (fun x => x < B) c ps[k].b) := by
  obtain ⟨ao', cap', h1, h2, h3, h4, h5⟩ := h
  simp only [List.cons.injEq, Value.slice.injEq, and_true] at h1
  obtain ⟨rfl, rfl, rfl⟩ := h1
  refine ⟨rfl, h2, h3, fun hne => ?_⟩
  rcases h5 with rfl | ⟨b, o, e, hb, hs, hc⟩
  · exact absurd rfl hne
  · refine ⟨b, o, e, hb, hs, fun k hk => ?_⟩
    obtain ⟨cs', g1, g2, v, rfl, g3, g4, g5, c, cp, g6, g7, g8, g9, g10⟩ := hc k hk
    simp only [List.cons.injEq, and_true] at g6
    subst g6
    exact ⟨c, cp, g2 0 (by decide), g2 1 (by decide), g2 2 (by decide), g2 3 (by decide), g3, g4, g5, g7, g8, g9, g10⟩

set_option maxRecDepth 100000 in
set_option maxHeartbeats 400000 in
theorem few_any {B : Nat} (ps : List PutD) (ao : Option Addr) (n cap : Nat) (w : World) (h : inSlice 4 inPut ps B w [.slice ao n cap]) :
    Calls Try.prog 11 #[.slice ao n cap] w fun e w' => e = .returned (.slice ao (fewN 100000 0 ps) cap) ∧ w = w' := by
  obtain ⟨rfl, hnc, hcm, hcells⟩ := put_cells h
  clear h
  unfold maxLen at hcm
  obtain ⟨N, hN⟩ : ∃ N, N = fewN 100000 0 ps := ⟨_, rfl⟩
  obtain ⟨len, hlen⟩ : ∃ len, len = ps.length := ⟨_, rfl⟩
  rw [← hN, ← hlen]
  rw [← hlen] at hnc
  have HN := Lib.hid hN
  have HL := Lib.hid hlen
  have HC := Lib.hid hcells
  clear hN hlen hcells
  go_enter Try.func11, Try.ntmps11
  go_wp2
  go_loop [3, 4, 7] (fun l _ i => ∃ k left : Nat, k ≤ len ∧ left ≤ 100000 ∧ i = .int .i64 k ∧ l = .int .i64 left ∧ k + fewN left k (ps.drop k) = N) (fun _ _ i => len - (intOf i).toNat)
  case atStart => exact ⟨0, 100000, Nat.zero_le _, Nat.le_refl _, rfl, rfl, by simpa using HN.out.symm⟩
  case round =>
    obtain ⟨k, left, hk, hleft, rfl, rfl, hrel⟩ := hrel
    by_cases hlt : k < len
    · have hk' : k < ps.length := by rw [← HL.out]; exact hlt
      obtain ⟨b, o, rfl, -, -, hc⟩ := HC.out (by rintro rfl; simp at hk')
      obtain ⟨c, cp, c0, c1, c2, c3, -, -, -, hb1, hb2, -⟩ := hc k hk'
      obtain ⟨m, hm⟩ : ∃ m, m = ps[k].b.length := ⟨_, rfl⟩
      have hdrop : ps.drop k = ps[k] :: ps.drop (k + 1) := List.drop_eq_getElem_cons hk'
      rw [hdrop] at hrel
      unfold fewN at hrel
      rw [← hm] at hrel hb1 c3
      unfold maxLen at hb2
      clear c0 c1 c2 hc hdrop hm
      have HREL := Lib.hid hrel
      clear hrel
      by_cases h200 : 200 ≤ k
      · have hkN : Hid (N = k) := by have := HREL.out; rw [if_pos (.inl h200)] at this; exact this.symm
        go_wp2
        go_ret
        exact ⟨by rw [hkN.out]; rfl, rfl⟩
      · by_cases hm : left < m
        · have hkN : Hid (N = k) := by have := HREL.out; rw [if_pos (.inr hm)] at this; exact this.symm
          go_wp2
          go_ret
          exact ⟨by rw [hkN.out]; rfl, rfl⟩
        · have hnext : Hid (k + 1 + fewN (left - m) (k + 1) (ps.drop (k + 1)) = N) := by
            have := HREL.out
            rw [if_neg (by omega)] at this
            show k + 1 + fewN (left - m) (k + 1) (ps.drop (k + 1)) = N
            omega
          clear HREL
          go_wp2
          go_round
          case rel => exact ⟨k + 1, left - m, by omega, by omega, by go_num, by go_num, hnext.out⟩
          case measure => simp [intOf]; omega
    · have hkl : Hid (N = len) := by
        rw [List.drop_eq_nil_of_le (by rw [← HL.out]; omega)] at hrel
        simp only [fewN] at hrel
        show N = len
        omega
      clear hrel
      go_wp2
      go_ret
      exact ⟨by rw [hkl.out]; rfl, rfl⟩

end Cod
end Go.Proofs.Ytjnldgijnpgckaa
