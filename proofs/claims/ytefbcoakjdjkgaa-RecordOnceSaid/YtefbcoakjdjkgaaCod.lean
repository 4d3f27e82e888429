/- Contracts of package codec: what each function does to a writer and a reader in memory. -/
import Derived.Test.YtefbcoakjdjkgaaRows
import Derived.Test.YtefbcoakjdjkgaaOwn
import Derived.WalkKit
import Derived.Deep.QuietTactic
import Derived.BigQuiet
import Derived.Deep.RegionLaw
import Derived.Deep.DeepMust
import Derived.Lib.Hide
namespace Go.Proofs.Ytefbcoakjdjkgaa
open Go.RowKit Go.Own

theorem Try.infoU8 : (Try.prog.info? 5).map (fun i => (i.zero, i.size, i.bytes)) = some (some (.int .u8 0), 1, 1) := by kernel_rfl

namespace Cod

/-- the many lowest bytes of n, the least significant one first -/
def le (n : Nat) : Nat → List UInt8
  | 0 => []
  | k + 1 => le n k ++ [UInt8.ofNat (n / 2 ^ (8 * k))]
theorem le_len (n k : Nat) : (le n k).length = k := by induction k <;> simp [le, *]

theorem le_byte (n k : Nat) : IntKind.u8.wrap ((n : Int) / 2 ^ (8 * (k : Int)).toNat) = ((UInt8.ofNat (n / 2 ^ (8 * k))).toNat : Int) := by
  have e : (8 * (k : Int)).toNat = 8 * k := by omega
  rw [e, IntKind.wrap_u8]
  simp

/-- a writer as plain data: its room, what was written, its first error -/
structure WS where
  room : Int
  xs : List UInt8
  err : Int

def WS.lay (s : WS) (bs : List UInt8) : WS := if s.err ≠ 0 then s else if s.room - s.xs.length < bs.length then { s with err := 4 } else { s with xs := s.xs ++ bs }
def WS.num (s : WS) (n : Nat) (many : Int) : WS := if s.err ≠ 0 then s else if many < 0 ∨ 8 < many then { s with err := 1 } else s.lay (le n many.toNat)
def WS.blob (s : WS) (bs : List UInt8) : WS := if s.err ≠ 0 then s else if 65535 < bs.length then { s with err := 4 } else s.lay (le bs.length 2 ++ bs)

/-- What a writer is in memory: its block, its row, and all the blocks that it holds. -/
def Wr (w : World) (S : Nat → Prop) (p : Nat) (s : WS) : Prop :=
  ∃ v T, w.heap[p]? = some (.cells #[.int .i64 s.room, v, .int .i64 s.err] 60 (0, 0)) ∧ Row w 5 1 T v s.xs.length (s.xs.map byteV) ∧ ¬ T p ∧ (∀ k, S k ↔ (k = p ∨ T k)) ∧ 0 ≤ s.room ∧ s.room ≤ 9223372036854775807

/-- the writer is so, and only its blocks have turned -/
def WrTo (S : Nat → Prop) (p : Nat) (s : WS) (w w' : World) : Prop := ∃ S', Wr w' S' p s ∧ Step S S' w w'

theorem Wr.keep {w w' : World} {S T U : Nat → Prop} {p : Nat} {s : WS} (h : Wr w S p s) (g : Step T U w w') (hd : Dis S T) : Wr w' S p s := by
  obtain ⟨v, R, hb, hr, hR, hS, h0, h1⟩ := h
  exact ⟨v, R, (g.block p (lt_of_block hb) (hd p ((hS p).2 (.inl rfl)))).trans hb, hr.step g (fun k hk => hd k ((hS k).2 (.inr hk))), hR, hS, h0, h1⟩

theorem Wr.lt {w : World} {S : Nat → Prop} {p : Nat} {s : WS} (h : Wr w S p s) : ∀ k, S k → k < w.heap.size := by
  obtain ⟨v, R, hb, hr, hR, hS, h0, h1⟩ := h
  intro k hk
  rcases (hS k).1 hk with rfl | h
  · exact lt_of_block hb
  · exact hr.lt k h

theorem Wr.drewN {w : World} {S : Nat → Prop} {p : Nat} {s : WS} (h : Wr w S p s) (n : Nat) : WrTo S p s w (w.drewN n) :=
  ⟨S, h.keep (T := fun _ => False) (U := fun _ => False) ((Step.refl _ _).drewN n) (fun _ _ h => h), (Step.refl _ _).drewN n⟩

theorem WrTo.trans {S : Nat → Prop} {p : Nat} {s s' : WS} {w w1 w2 : World} (h : WrTo S p s w w1) (g : ∀ S', Wr w1 S' p s → WrTo S' p s' w1 w2) : WrTo S p s' w w2 := by
  obtain ⟨S', h1, h2⟩ := h
  obtain ⟨S'', h3, h4⟩ := g S' h1
  exact ⟨S'', h3, h2.trans h4⟩

/-- the error is set -/
theorem Wr.fault {w : World} {S : Nat → Prop} {p : Nat} {s : WS} (h : Wr w S p s) (n : Nat) (x : Int) : WrTo S p { s with err := x } w ((w.drewN n).setCell ⟨p, 2, none⟩ (.int .i64 x)) := by
  obtain ⟨v, R, hb, hr, hR, hS, h0, h1⟩ := h
  have g : Step (fun k => k = p) (fun k => k = p) w ((w.drewN n).setCell ⟨p, 2, none⟩ (.int .i64 x)) := ((Step.refl (fun k => k = p) w).drewN n).setCell (a := ⟨p, 2, none⟩) (Or.inl rfl) _
  refine ⟨S, ⟨v, R, ?_, hr.step g (fun k h e => hR (e ▸ h)), hR, hS, h0, h1⟩, ((Step.refl S w).drewN n).setCell (a := ⟨p, 2, none⟩) (Or.inl ((hS p).2 (.inl rfl))) _⟩
  have e : (w.drewN n).heap[p]? = some (.cells #[.int .i64 s.room, v, .int .i64 s.err] 60 (0, 0)) := hb
  rw [block_setCell e]
  rfl

theorem Wr.push {wr w0 w1 : World} {S T T' : Nat → Prop} {p : Nat} {s : WS} {v v' : Value} {c : UInt8}
    (hb : wr.heap[p]? = some (.cells #[.int .i64 s.room, v, .int .i64 s.err] 60 (0, 0))) (hT : ¬ T p) (hS : ∀ k, S k ↔ (k = p ∨ T k)) (hr0 : 0 ≤ s.room) (hr1 : s.room ≤ 9223372036854775807)
    (h0 : Step T T wr w0) (hs : Step T T' w0 w1) (hr : Row w1 5 1 T' v' (s.xs.length + 1) (s.xs.map byteV ++ [byteV c])) :
    WrTo S p { s with xs := s.xs ++ [c] } wr (w1.setCell ⟨p, 1, none⟩ v') := by
  have hp := lt_of_block hb
  have h1 := h0.trans hs
  have hT' : ¬ T' p := fun h => (h1.new p h).elim hT (fun h => by omega)
  have hb1 : w1.heap[p]? = _ := (h1.block p hp hT).trans hb
  refine ⟨fun k => k = p ∨ T' k, ⟨v', T', by rw [block_setCell hb1]; rfl, ?_, hT', fun _ => Iff.rfl, hr0, hr1⟩, ?_⟩
  · have e : (s.xs ++ [c]).length = s.xs.length + 1 := by simp
    show Row _ _ _ _ _ (s.xs ++ [c]).length ((s.xs ++ [c]).map byteV)
    rw [e, List.map_append]
    exact hr.step (S := fun k => k = p) (U := fun k => k = p) ((Step.refl (fun k => k = p) w1).setCell (a := ⟨p, 1, none⟩) (Or.inl rfl) _) (fun k h e => hT' (e ▸ h))
  · have h2 : Step S (fun k => k = p ∨ T' k) wr w1 := ⟨h1.os, h1.tape, h1.output, h1.size, fun k hk hs => h1.block k hk (fun ht => hs ((hS k).2 (.inr ht))), fun k hk => hk.elim (fun e => .inl ((hS k).2 (.inl e))) (fun ht => (h1.new k ht).imp_left fun h => (hS k).2 (.inr h))⟩
    exact h2.setCell (Or.inl ((hS p).2 (.inl rfl))) _

/-- a call that answers nothing and leaves a writer so -/
def WDone (S : Nat → Prop) (p : Nat) (s : WS) (w : World) (e : Ending) (w' : World) : Prop := e = .returned (.tuple #[]) ∧ WrTo S p s w w'

set_option maxHeartbeats 400000 in
theorem putNum_any (S : Nat → Prop) (p : Nat) (s : WS) (n many : Nat) (w : World)
    (hW : Wr w S p s) (hm : many ≤ 8) (hxs : s.xs.length ≤ 100000000) :
    Calls Try.prog 37 #[.pointer (some ⟨p, 0, none⟩), .int .u64 n, .int .i64 many] w (WDone S p { s with xs := s.xs ++ le n many } w) := by
  obtain ⟨i0, hi, hz0, hz1, hz2⟩ := info_parts Try.infoU8
  go_enter Try.func37, Try.ntmps37
  go_wp2
  go_loopw [6, 8] (fun _ i wr => ∃ k : Nat, k ≤ many ∧ i = .int .i64 k ∧ WrTo S p { s with xs := s.xs ++ le n k } w wr) (fun _ i _ => many - (intOf i).toNat)
  case atStart => exact ⟨0, Nat.zero_le _, rfl, S, by simpa [le] using hW, Step.refl _ _⟩
  case round =>
    obtain ⟨k, hk, rfl, S', ⟨v, T, hb, hrow, hT, hS, hr0, hr1⟩, hst⟩ := hrel
    have hlen : (s.xs ++ le n k).length ≤ 100000008 := by rw [List.length_append, le_len]; omega
    obtain ⟨ao, cap, rfl, hc1, hc2, -⟩ := hrow.form
    have h1 := cell_of_block (i := 1) hb rfl
    have hp := lt_of_block hb
    by_cases hlt : k < many
    · have hk8 : IntKind.i64.wrap (8 * (k : Int)) = 8 * (k : Int) := IntWalk.i64_in _ (by omega)
      have hk0 : (0 : Int) ≤ 8 * (k : Int) := by omega
      obtain ⟨c, hc⟩ : ∃ c, c = UInt8.ofNat (n / 2 ^ (8 * k)) := ⟨_, rfl⟩
      have hB : IntKind.u8.wrap ((n : Int) / 2 ^ (8 * (k : Int)).toNat) = (c.toNat : Int) := by rw [hc]; exact le_byte n k
      have HC := Lib.hid hc
      clear hc
      generalize hys : s.xs ++ le n k = ys at *
      have HY := Lib.hid hys
      clear hys
      simp only at hb hrow hr0 hr1 h1 hlen hc1
      go_wp2
      go_region_law (refine step_append_row rfl (.tmp 15) (.tmp 21) 28 rfl 5 i0 (.int .u8 0) 1 1 Try.underlying28 hi hz0 hz1 hz2 rfl (by decide) _ _ _ (by simp [Act.eval, Act.put]) (hrow.alloc _).drew (some ⟨wr.heap.size, 0, none⟩) 1 1 [byteV c] (by simp [Act.eval, Act.put]) (by intro h; cases h) rfl (cell_new_byte _ _ _) (byteV_one [_]) (by unfold maxLen; omega) (by omega) ?_; intro v' w1 T' hr' hs'; obtain ⟨ao', cap', rfl, -⟩ := hr'.form; have hb1 := ((((Step.refl T wr).alloc _).drew).trans hs').block p (lt_of_block hb) hT |>.trans hb; have c1 := cell_of_block (i := 1) hb1 rfl; have f1 := frozen_of_block (i := 1) hb1)
      all_goals
        have r := Wr.push (s := { s with xs := ys }) hb hT hS hr0 hr1 (((Step.refl T wr).alloc _).drew) hs' hr'
        clear hb1 c1 f1
        go_wp2
        go_roundw
        case rel =>
          obtain ⟨S'', r1, r2⟩ := r
          exact ⟨k + 1, by omega, by go_num, S'', by rw [le, ← List.append_assoc, HY.out, ← HC.out]; exact r1, hst.trans r2⟩
        case measure => simp [intOf]; omega
    · have hkm : k = many := by omega
      have HK := Lib.hid hkm
      clear hkm
      go_wp2
      go_end0
      exact ⟨rfl, S', by rw [← HK.out]; exact ⟨_, T, hb, hrow, hT, hS, hr0, hr1⟩, hst⟩

set_option maxHeartbeats 400000 in
theorem putBytes_any (S D : Nat → Prop) (p : Nat) (s : WS) (ao : Option Addr) (bs : List UInt8) (cap : Nat) (w : World)
    (hW : Wr w S p s) (hV : View w D ao bs) (hD : Dis D S) (hbs : bs.length ≤ 100000000) (hxs : s.xs.length ≤ 100000000) :
    Calls Try.prog 38 #[.pointer (some ⟨p, 0, none⟩), .slice ao bs.length cap] w (WDone S p { s with xs := s.xs ++ bs } w) := by
  obtain ⟨i0, hi, hz0, hz1, hz2⟩ := info_parts Try.infoU8
  obtain ⟨len, hl⟩ : ∃ len, len = bs.length := ⟨_, rfl⟩
  rw [← hl]
  rw [← hl] at hbs
  have HL := Lib.hid hl
  clear hl
  go_enter Try.func38, Try.ntmps38
  go_wp2
  go_loopw [4, 7] (fun _ i wr => ∃ k : Nat, k ≤ len ∧ i = .int .i64 k ∧ WrTo S p { s with xs := s.xs ++ bs.take k } w wr) (fun _ i _ => len - (intOf i).toNat)
  case atStart => exact ⟨0, Nat.zero_le _, rfl, S, by simpa using hW, Step.refl _ _⟩
  case round =>
    obtain ⟨k, hk, rfl, S', ⟨v, T, hb, hrow, hT, hS, hr0, hr1⟩, hst⟩ := hrel
    have hlen : (s.xs ++ bs.take k).length ≤ 200000000 := by have := HL.out; rw [List.length_append, List.length_take]; omega
    obtain ⟨ao', cap', rfl, hc1, hc2, -⟩ := hrow.form
    have h1 := cell_of_block (i := 1) hb rfl
    have hp := lt_of_block hb
    by_cases hlt : k < len
    · obtain ⟨b, o, rfl, hbD, hbw, hc⟩ : ∃ b o, ao = some ⟨b, o, none⟩ ∧ D b ∧ b < w.heap.size ∧ ∀ j, j < bs.length → w.cell? ⟨b, o + j, none⟩ = some (.int .u8 ((bs.getD j 0).toNat : Int)) := by
        rcases hV with h | h
        · have := HL.out; rw [h] at this; simp at this; omega
        · exact h
      obtain ⟨c, hcd⟩ : ∃ c, c = bs.getD k 0 := ⟨_, rfl⟩
      have hcx : wr.cell? ⟨b, o + k, none⟩ = some (.int .u8 (c.toNat : Int)) := by
        rw [hcd]; exact (World.cell?_of_block (w := w) (hst.block b hbw (hD b hbD))).trans (hc k (by rw [← HL.out]; exact hlt))
      have hbw' : b < wr.heap.size := Nat.lt_of_lt_of_le hbw hst.size
      have hsn : bs.take (k + 1) = bs.take k ++ [c] := by
        rw [List.take_succ_eq_append_getElem (by rw [← HL.out]; exact hlt), hcd]
        simp [show k < bs.length by rw [← HL.out]; exact hlt]
      have HC := Lib.hid hsn
      clear hcd hsn hc hbD hbw hV
      generalize hys : s.xs ++ bs.take k = ys at *
      have HY := Lib.hid hys
      clear hys
      simp only at hb hrow hr0 hr1 h1 hlen hc1
      go_wp2
      go_region_law (refine step_append_row rfl (.tmp 14) (.tmp 19) 28 rfl 5 i0 (.int .u8 0) 1 1 Try.underlying28 hi hz0 hz1 hz2 rfl (by decide) _ _ _ (by simp [Act.eval, Act.put]) (hrow.alloc _).drew (some ⟨wr.heap.size, 0, none⟩) 1 1 [byteV c] (by simp [Act.eval, Act.put]) (by intro h; cases h) rfl (cell_new_byte _ _ _) (byteV_one [_]) (by unfold maxLen; omega) (by omega) ?_; intro v' w1 T' hr' hs'; obtain ⟨ao'', cap'', rfl, -⟩ := hr'.form; have hb1 := ((((Step.refl T wr).alloc _).drew).trans hs').block p (lt_of_block hb) hT |>.trans hb; have c1 := cell_of_block (i := 1) hb1 rfl; have f1 := frozen_of_block (i := 1) hb1)
      all_goals
        have r := Wr.push (s := { s with xs := ys }) hb hT hS hr0 hr1 (((Step.refl T wr).alloc _).drew) hs' hr'
        clear hb1 c1 f1
        go_wp2
        go_roundw
        case rel =>
          obtain ⟨S'', r1, r2⟩ := r
          exact ⟨k + 1, by omega, by go_num, S'', by rw [HC.out, ← List.append_assoc, HY.out]; exact r1, hst.trans r2⟩
        case measure => simp [intOf]; omega
    · have hkm : bs.take k = bs := List.take_of_length_le (by rw [← HL.out]; omega)
      have HK := Lib.hid hkm
      clear hkm
      have hkl : (k : Int) = len := by omega
      have HKL := Lib.hid hkl
      clear hkl
      go_wp2
      go_end0
      exact ⟨rfl, S', by rw [← HK.out]; exact ⟨_, T, hb, hrow, hT, hS, hr0, hr1⟩, hst⟩

end Cod
end Go.Proofs.Ytefbcoakjdjkgaa
