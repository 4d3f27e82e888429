/- Contracts of the document's own answer for layer 1: the writer. -/
import Derived.Test.YtjnldgijnpgckaaCodS
import Derived.WalkLawsBesides
namespace Go.Proofs.Ytjnldgijnpgckaa
open Go.RowKit Go.Own
namespace Cod

/-- a reference writer in memory -/
def RW (w : World) (S : Nat → Prop) (p : Nat) (s : WS) : Prop :=
  ∃ v room T, w.heap[p]? = some (.cells #[v, .int .i64 room, .int .i64 s.err] 30 (0, 0)) ∧ Row w 5 1 T v s.xs.length (s.xs.map byteV) ∧ ¬ T p ∧ (∀ k, S k ↔ (k = p ∨ T k)) ∧ s.room = max room 0 ∧ room ≤ 9223372036854775807

theorem RW.keep {w w' : World} {S T U : Nat → Prop} {p : Nat} {s : WS} (h : RW w S p s) (g : Step T U w w') (hd : Dis S T) : RW w' S p s := by
  obtain ⟨v, room, R, hb, hr, hR, hS, h0, h1⟩ := h
  exact ⟨v, room, R, (g.block p (lt_of_block hb) (hd p ((hS p).2 (.inl rfl)))).trans hb, hr.step g (fun k hk => hd k ((hS k).2 (.inr hk))), hR, hS, h0, h1⟩

theorem RW.lt {w : World} {S : Nat → Prop} {p : Nat} {s : WS} (h : RW w S p s) : ∀ k, S k → k < w.heap.size := by
  obtain ⟨v, room, R, hb, hr, hR, hS, h0, h1⟩ := h
  intro k hk
  rcases (hS k).1 hk with rfl | h
  · exact lt_of_block hb
  · exact hr.lt k h

def ARW (p : Nat) (s : WS) : Asn where
  holds S w := RW w S p s
  keep h g hd := h.keep g hd
  lt h := h.lt

def RWTo (S : Nat → Prop) (p : Nat) (s : WS) (w w' : World) : Prop := ∃ S', RW w' S' p s ∧ Step S S' w w'

theorem RW.same {w : World} {S : Nat → Prop} {p : Nat} {s : WS} (h : RW w S p s) (n : Nat) : RWTo S p s w (w.drewN n) :=
  ⟨S, h.keep (T := fun _ => False) (U := fun _ => False) ((Step.refl _ _).drewN n) (fun _ _ h => h), (Step.refl _ _).drewN n⟩

theorem RW.fault {w : World} {S : Nat → Prop} {p : Nat} {s : WS} (h : RW w S p s) (n : Nat) (x : Int) : RWTo S p { s with err := x } w ((w.drewN n).setCell ⟨p, 2, none⟩ (.int .i64 x)) := by
  obtain ⟨v, room, R, hb, hr, hR, hS, h0, h1⟩ := h
  have g : Step (fun k => k = p) (fun k => k = p) w ((w.drewN n).setCell ⟨p, 2, none⟩ (.int .i64 x)) := ((Step.refl (fun k => k = p) w).drewN n).setCell (a := ⟨p, 2, none⟩) (Or.inl rfl) _
  refine ⟨S, ⟨v, room, R, ?_, hr.step g (fun k h e => hR (e ▸ h)), hR, hS, h0, h1⟩, ((Step.refl S w).drewN n).setCell (a := ⟨p, 2, none⟩) (Or.inl ((hS p).2 (.inl rfl))) _⟩
  have e : (w.drewN n).heap[p]? = some (.cells #[v, .int .i64 room, .int .i64 s.err] 30 (0, 0)) := hb
  rw [block_setCell e]
  rfl

theorem RW.put {w w0 w1 : World} {S T T' : Nat → Prop} {p : Nat} {room err : Int} {ys : List UInt8} {v v' : Value}
    (hb : w.heap[p]? = some (.cells #[v, .int .i64 room, .int .i64 err] 30 (0, 0))) (hT : ¬ T p) (hS : ∀ k, S k ↔ (k = p ∨ T k)) (hr1 : room ≤ 9223372036854775807)
    (h0 : Step T T w w0) (hs : Step T T' w0 w1) (hr : Row w1 5 1 T' v' ys.length (ys.map byteV)) :
    RWTo S p ⟨max room 0, ys, err⟩ w (w1.setCell ⟨p, 0, none⟩ v') := by
  have hp := lt_of_block hb
  have h1 := h0.trans hs
  have hT' : ¬ T' p := fun h => (h1.new p h).elim hT (fun h => by omega)
  have hb1 : w1.heap[p]? = _ := (h1.block p hp hT).trans hb
  refine ⟨fun k => k = p ∨ T' k, ⟨v', room, T', by rw [block_setCell hb1]; rfl, ?_, hT', fun _ => Iff.rfl, rfl, hr1⟩, ?_⟩
  · exact hr.step (S := fun k => k = p) (U := fun k => k = p) ((Step.refl (fun k => k = p) w1).setCell (a := ⟨p, 0, none⟩) (Or.inl rfl) _) (fun k h e => hT' (e ▸ h))
  · have h2 : Step S (fun k => k = p ∨ T' k) w w1 := ⟨h1.os, h1.tape, h1.output, h1.size, fun k hk hs => h1.block k hk (fun ht => hs ((hS k).2 (.inr ht))), fun k hk => hk.elim (fun e => .inl ((hS k).2 (.inl e))) (fun ht => (h1.new k ht).imp_left fun h => (hS k).2 (.inr h))⟩
    exact h2.setCell (Or.inl ((hS p).2 (.inl rfl))) _

/-- a call that answers nothing and leaves a reference writer so -/
def RWDone (S : Nat → Prop) (p : Nat) (s : WS) (w : World) (e : Ending) (w' : World) : Prop := e = .returned (.tuple #[]) ∧ RWTo S p s w w'

set_option maxHeartbeats 400000 in
theorem rlay_any (S D : Nat → Prop) (p : Nat) (s : WS) (ao : Option Addr) (bs : List UInt8) (cap : Nat) (w : World) (hW : RW w S p s) (hV : View w D ao bs) (hcap : ao = none → cap = 0) (hbs : bs.length ≤ 100000000) (hxs : s.xs.length ≤ 100000000) :
    Calls Try.prog 31 #[.pointer (some ⟨p, 0, none⟩), .slice ao bs.length cap] w (RWDone S p (s.lay bs) w) := by
  obtain ⟨i0, hi, hz0, hz1, hz2⟩ := info_parts Try.infoU8
  have hW0 := Lib.hid hW
  have hc := Lib.hid (view_cells hV)
  obtain ⟨v, room, T, hb, hrow, hT, hS, hr0, hr1⟩ := hW
  have hnone : Hid (ao = none → bs.length = 0 ∧ cap = 0) := by
    intro h
    refine ⟨?_, hcap h⟩
    rcases hV with h' | ⟨b, o, h', _⟩
    · rw [h']; rfl
    · rw [h] at h'; cases h'
  obtain ⟨ao', cap', rfl, hc1, hc2, -⟩ := hrow.form
  have h0 := cell_of_block (i := 0) hb rfl
  have h1 := cell_of_block (i := 1) hb rfl
  have h2 := cell_of_block (i := 2) hb rfl
  have f0 := frozen_of_block (i := 0) hb
  have f2 := frozen_of_block (i := 2) hb
  obtain ⟨sroom, xs, err⟩ := s
  simp only at hr0 h2 hxs hc1
  have HB := Lib.hid hb
  have HR := Lib.hid hrow
  have HT := Lib.hid hT
  have HS := Lib.hid hS
  have hp := lt_of_block hb
  clear hb hrow hT hS hV hcap
  subst hr0
  by_cases he : err = 0
  · subst he
    by_cases hf : (bs.length : Int) ≤ max room 0 - xs.length
    · have hfin : Hid (WS.lay ⟨max room 0, xs, 0⟩ bs = ⟨max room 0, xs ++ bs, 0⟩) := by
        simp only [Hid, WS.lay]
        rw [if_neg (by simp), if_neg (by omega)]
      have hrd : ∀ q, Row (w.drewN q) 5 1 T (.slice ao' xs.length cap') xs.length (xs.map byteV) := fun q => ⟨HR.out.own, HR.out.set⟩
      have HRD := Lib.hid hrd
      clear hrd
      go_enter Try.func31, Try.ntmps31
      go_wp2
      go_quiet (fail)
      go_wp2_with (at_builtin; refine wpList_append_row rfl (.tmp 30) (.tmp 31) 27 rfl 5 i0 (.int .u8 0) 1 1 Try.underlying27 hi hz0 hz1 hz2 rfl (by decide) (.slice ao' xs.length cap') xs.length (xs.map byteV) rfl (HRD.out nq) ao bs.length cap (bs.map byteV) rfl hnone.out (by rw [List.length_map, Nat.mul_one]) (fun a h j u hu => hc.out a h j u hu) (byteV_one _) (by unfold maxLen; omega) (by omega) ?_; intro v' w1 T' hr' hs'; obtain ⟨ao'', cap'', rfl, -⟩ := hr'.form; have hb1 : w1.heap[p]? = _ := (hs'.block p hp HT.out).trans HB.out; have c1 := cell_of_block (i := 0) hb1 rfl; have f1 := frozen_of_block (i := 0) hb1)
      all_goals
        go_end0
        rw [hfin.out]
        refine ⟨rfl, ?_⟩
        have := RW.put (ys := xs ++ bs) HB.out HT.out HS.out hr1 ((Step.refl T w).drewN nq) hs' (by rw [List.length_append, List.map_append]; exact hr')
        exact this
    · have hfin : Hid (WS.lay ⟨max room 0, xs, 0⟩ bs = ⟨max room 0, xs, 4⟩) := by
        simp only [Hid, WS.lay]
        rw [if_neg (by simp), if_pos (by omega)]
      go_enter Try.func31, Try.ntmps31
      go_wp2
      go_quiet (fail)
      go_wp2
      all_goals
        go_end0
        rw [hfin.out]
        exact ⟨rfl, hW0.out.fault nq 4⟩
  · have hfin : Hid (WS.lay ⟨max room 0, xs, err⟩ bs = ⟨max room 0, xs, err⟩) := by simp [Hid, WS.lay, he]
    have he' : (err == 0) = false := by simp [he]
    go_enter Try.func31, Try.ntmps31
    go_wp2
    go_end0
    rw [hfin.out]
    exact ⟨rfl, hW0.out.same 0⟩

/-- a number's bytes, as a new slice -/
def RefNumDone (n k : Nat) (w : World) (e : Ending) (w' : World) : Prop :=
  ∃ ao cap T, e = .returned (.slice ao k cap) ∧ Row w' 5 1 T (.slice ao k cap) k ((le n k).map byteV) ∧ Step (fun _ => False) T w w'

theorem ref_byte (n k : Nat) : IntKind.u8.wrap (((n / 2 ^ (8 * k) : Nat) : Int) % 256) = ((UInt8.ofNat (n / 2 ^ (8 * k))).toNat : Int) := by
  rw [IntKind.wrap_u8]
  simp

set_option maxHeartbeats 400000 in
theorem refNum_any (n many : Nat) (w : World) (hm : many ≤ 8) (hn : n < 18446744073709551616) :
    Calls Try.prog 32 #[.int .u64 n, .int .i64 many] w (RefNumDone n many w) := by
  obtain ⟨i0, hi, hz0, hz1, hz2⟩ := info_parts Try.infoU8
  obtain ⟨lim, hlim⟩ : ∃ lim, n < lim ∧ lim ≤ 18446744073709551616 := ⟨n + 1, by omega, by omega⟩
  have HN := Lib.hid hn
  clear hn hlim
  go_enter Try.func32, Try.ntmps32
  go_wp2
  go_loopw [0, 5, 6] (fun x b i wr => ∃ k : Nat, k ≤ many ∧ i = .int .i64 k ∧ x = .int .u64 (n / 2 ^ (8 * k) : Nat) ∧ ∃ ao cap T, b = .slice ao k cap ∧ Row wr 5 1 T b k ((le n k).map byteV) ∧ Step (fun _ => False) T w wr) (fun _ _ i _ => many - (intOf i).toNat)
  case atStart => exact ⟨0, Nat.zero_le _, rfl, by simp, none, 0, _, rfl, Row.nil _ _ _, Step.refl _ _⟩
  case round =>
    obtain ⟨k, hk, rfl, rfl, ao, cap, T, rfl, hrow, hst⟩ := hrel
    by_cases hlt : k < many
    · obtain ⟨c, hc⟩ : ∃ c, c = UInt8.ofNat (n / 2 ^ (8 * k)) := ⟨_, rfl⟩
      obtain ⟨m, hmm⟩ : ∃ m, m = n / 2 ^ (8 * k) := ⟨_, rfl⟩
      have hB : IntKind.u8.wrap ((m : Int) % 256) = (c.toNat : Int) := by rw [hc, hmm]; exact ref_byte n k
      have hmlt : m ≤ 18446744073709551615 := by
        have := Nat.div_le_self n (2 ^ (8 * k)); have := HN.out; omega
      have hnx : m / 256 = n / 2 ^ (8 * (k + 1)) := by
        rw [hmm, Nat.div_div_eq_div_mul, Nat.mul_add, Nat.pow_add]
      rw [← hmm]
      have hcell := cell_new_byte wr c 5
      have HCell := Lib.hid hcell
      have HC := Lib.hid hc
      have HM := Lib.hid hmm
      have HX := Lib.hid hnx
      clear hc hmm hcell hnx
      go_wp2_with (at_builtin; refine wpList_append_row rfl (.tmp 12) (.tmp 16) 27 rfl 5 i0 (.int .u8 0) 1 1 Try.underlying27 hi hz0 hz1 hz2 rfl (by decide) (.slice ao k cap) k ((le n k).map byteV) rfl (hrow.alloc _) (some ⟨wr.heap.size, 0, none⟩) 1 1 [byteV c] rfl (by intro h; cases h) rfl HCell.out (byteV_one [_]) (by unfold maxLen; omega) (by omega) ?_; intro v' w1 T' hr' hs'; obtain ⟨ao'', cap'', rfl, -⟩ := hr'.form)
      go_roundw
      case rel =>
        refine ⟨k + 1, by omega, by go_num, ?_, ao'', cap'', T', rfl, ?_, (hst.trans ((Step.refl T wr).alloc _)).trans hs'⟩
        · show Value.int _ _ = Value.int _ _
          rw [← HX.out]; simp
        · rw [le, List.map_append, ← HC.out]; exact hr'
      case measure => simp [intOf]; omega
    · have hkm : Hid (k = many) := by show k = many; omega
      go_wp2
      go_ret
      exact ⟨ao, cap, T, by rw [hkm.out]; rfl, by rw [← hkm.out]; exact hrow, hst⟩

end Cod
end Go.Proofs.Ytjnldgijnpgckaa
