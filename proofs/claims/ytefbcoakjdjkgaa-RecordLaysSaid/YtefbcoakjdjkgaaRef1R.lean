/- Contracts of the document's own answer for layer 1: the reader. -/
import Derived.Test.YtefbcoakjdjkgaaCodS
import Derived.Test.YtefbcoakjdjkgaaIn
import Derived.WalkLawsBesides
import Derived.WalkSpells
namespace Go.Proofs.Ytefbcoakjdjkgaa
open Go.RowKit Go.Own
namespace Cod

/-- a reference reader: its own block; the bytes that it reads lie elsewhere -/
def ARR (p : Nat) (ao : Option Addr) (cap : Nat) (bs : List UInt8) (i : Nat) (err : Int) : Asn :=
  ABlk p (.cells #[.slice ao bs.length cap, .int .i64 i, .int .i64 err] 58)

/-- what a take leaves -/
def TakeRDone (B : Nat) (p : Nat) (ao : Option Addr) (cap : Nat) (bs : List UInt8) (x : List UInt8 × RS) (w : World) (e : Ending) (w' : World) : Prop :=
  ∃ a' cap' i' err', e = .returned (.slice a' x.1.length cap') ∧ View w' (fun k => k < B) a' x.1 ∧ bs.drop i' = x.2.l ∧ err' = x.2.err ∧ i' ≤ bs.length ∧
    w'.heap[p]? = some (.cells #[.slice ao bs.length cap, .int .i64 (i' : Nat), .int .i64 err'] 58) ∧ Step (fun k => k = p) (fun k => k = p) w w'

theorem blk_set {w : World} {p j : Nat} {c : Array Value} {t : TypeId} (h : w.heap[p]? = some (.cells c t)) (n : Nat) (u : Value) :
    ((w.drewN n).setCell ⟨p, j, none⟩ u).heap[p]? = some (.cells (c.setIfInBounds j u) t) ∧ Step (fun k => k = p) (fun k => k = p) w ((w.drewN n).setCell ⟨p, j, none⟩ u) :=
  ⟨block_setCell (w := w.drewN n) h u, ((Step.refl (fun k => k = p) w).drewN n).setCell (a := ⟨p, j, none⟩) (Or.inl rfl) _⟩

set_option maxHeartbeats 1000000 in
theorem reftake_any (B p : Nat) (ao : Option Addr) (cap : Nat) (bs : List UInt8) (i : Nat) (err n : Int) (w : World) (hb : w.heap[p]? = some (.cells #[.slice ao bs.length cap, .int .i64 i, .int .i64 err] 58))
    (hV : View w (fun k => k < B) ao bs) (hp : B ≤ p) (hi : i ≤ bs.length) (hc : bs.length ≤ cap) (hm : bs.length ≤ 1000000) (hm2 : cap ≤ maxLen) (h0 : ao = none → cap = 0) :
    Calls Try.prog 44 #[.pointer (some ⟨p, 0, none⟩), .int .i64 n] w (TakeRDone B p ao cap bs (RS.raw ⟨bs.drop i, err⟩ n) w) := by
  have hB := Lib.hid hb
  have HV := Lib.hid hV
  have c0 := cell_of_block (i := 0) hb rfl
  have c1 := cell_of_block (i := 1) hb rfl
  have c2 := cell_of_block (i := 2) hb rfl
  have f1 := frozen_of_block (i := 1) hb
  have f2 := frozen_of_block (i := 2) hb
  unfold maxLen at hm2
  obtain ⟨len, hlen⟩ : ∃ len, len = bs.length := ⟨_, rfl⟩
  rw [← hlen] at c0 hi hc hm
  have HL := Lib.hid hlen
  clear hb hV hlen
  by_cases he : err = 0
  · subst he
    by_cases hneg : n < 0
    · have hfin : Hid (RS.raw ⟨bs.drop i, 0⟩ n = ([], ⟨bs.drop i, 1⟩)) := by simp [Hid, RS.raw, hneg]
      go_enter Try.func44, Try.ntmps44
      go_wp2
      go_ret
      rw [hfin.out]
      have hx := blk_set (j := 2) hB.out 0 (.int .i64 1)
      exact ⟨none, 0, i, 1, rfl, .inl rfl, rfl, rfl, by rw [← HL.out]; exact hi, hx.1, hx.2⟩
    · obtain ⟨k, rfl⟩ := Int.eq_ofNat_of_zero_le (show 0 ≤ n by omega)
      by_cases hs : (len : Int) - i < k
      · have hfin : Hid (RS.raw ⟨bs.drop i, 0⟩ k = ([], ⟨bs.drop i, 10⟩)) := by
          simp only [Hid, RS.raw]
          rw [if_neg (by simp), if_neg hneg, if_pos (by rw [List.length_drop, ← HL.out]; omega)]
        go_enter Try.func44, Try.ntmps44
        go_wp2
        go_quiet (fail)
        go_wp2
        go_ret
        rw [hfin.out]
        have hx := blk_set (j := 2) hB.out nq (.int .i64 10)
        exact ⟨none, 0, i, 10, rfl, .inl rfl, rfl, rfl, by rw [← HL.out]; exact hi, hx.1, hx.2⟩
      · have hfin : Hid (RS.raw ⟨bs.drop i, 0⟩ k = ((bs.drop i).take k, ⟨bs.drop (i + k), 0⟩)) := by
          simp only [Hid, RS.raw]
          rw [if_neg (by simp), if_neg hneg, if_neg (by rw [List.length_drop, ← HL.out]; omega), Int.toNat_natCast, List.drop_drop]
        have hkl : Hid (((bs.drop i).take k).length = k) := by
          show _ = _
          rw [List.length_take, List.length_drop, ← HL.out]; omega
        have hw1 : IntKind.i64.wrap ((i : Int) + (k : Int) - (k : Int)) = (i : Int) := IntWalk.i64_in _ (by omega) |>.trans (by omega)
        have hw2 : IntKind.i64.wrap (i : Int) = (i : Int) := IntWalk.i64_in _ (by omega)
        have hlo : (i : Int) ≤ (i : Int) + (k : Int) := by omega
        have hhi : (i : Int) + (k : Int) ≤ (cap : Int) := by omega
        have hfin2 : ∀ (nq m : Nat) (a' : Option Addr) (cap' : Nat), View w (fun x => x < B) a' ((bs.drop i).take k) →
            TakeRDone B p ao cap bs (RS.raw ⟨bs.drop i, 0⟩ k) w (.returned (.slice a' k cap')) ((((w.drewN nq).setCell ⟨p, 1, none⟩ (.int .i64 ((i : Int) + (k : Int)))).drewN m)) := by
          intro nq m a' cap' hv
          rw [hfin.out, show ((i : Int) + (k : Int)) = ((i + k : Nat) : Int) by omega]
          have hx := blk_set (j := 1) hB.out nq (.int .i64 ((i + k : Nat) : Int))
          refine ⟨a', cap', i + k, 0, by rw [hkl.out], ?_, rfl, rfl, by rw [← HL.out]; omega, hx.1, hx.2.drewN m⟩
          exact View.step hv (hx.2.drewN m) (fun x hx1 hx2 => by omega)
        have HFIN := Lib.hid hfin2
        clear hfin2
        cases ao with
        | none =>
          obtain rfl := h0 rfl
          obtain rfl : len = 0 := by omega
          obtain rfl : i = 0 := by omega
          obtain rfl : k = 0 := by omega
          go_enter Try.func44, Try.ntmps44
          go_wp2
          go_quiet (fail)
          go_wp2
          go_quiet (fail)
          go_wp2
          go_ret
          refine HFIN.out _ _ _ _ ?_
          have : bs = [] := List.eq_nil_of_length_eq_zero HL.out.symm
          rw [this]
          exact .inl rfl
        | some a =>
          go_enter Try.func44, Try.ntmps44
          go_wp2
          go_quiet (fail)
          go_wp2
          go_quiet (fail)
          go_wp2
          all_goals go_ret
          · obtain rfl : cap = i := by omega
            refine HFIN.out _ _ _ _ ?_
            have : bs.drop cap = [] := List.drop_eq_nil_of_le (by rw [← HL.out]; omega)
            rw [this]
            exact .inl (by simp)
          · refine HFIN.out _ _ _ _ ?_
            rcases HV.out with h | ⟨b, o, h, hb1, hb2, hc2⟩
            · rw [h]; exact .inl (by simp)
            · cases h
              rw [add_of]
              exact View.take (View.drop (.inr ⟨b, o, rfl, hb1, hb2, hc2⟩) i) k
  · have hfin : Hid (RS.raw ⟨bs.drop i, err⟩ n = ([], ⟨bs.drop i, err⟩)) := by simp [Hid, RS.raw, he]
    have he' : (err == 0) = false := by simp [he]
    go_enter Try.func44, Try.ntmps44
    go_wp2
    go_ret
    rw [hfin.out]
    exact ⟨none, 0, i, err, rfl, .inl rfl, rfl, rfl, by rw [← HL.out]; exact hi, hB.out, Step.refl _ _⟩

theorem num_cons (l : List UInt8) (i : Nat) (h : i < l.length) : num (l.drop i) = (l.getD i 0).toNat + 256 * num (l.drop (i + 1)) := by
  rw [List.drop_eq_getElem_cons h, num]
  simp [List.getD, h]

set_option maxHeartbeats 400000 in
theorem refnumber_any (D : Nat → Prop) (ao : Option Addr) (l : List UInt8) (cap : Nat) (w : World) (hV : View w D ao l) (hl : l.length ≤ 8) :
    Calls Try.prog 43 #[.slice ao l.length cap] w fun e w' => e = .returned (.int .u64 (num l)) ∧ w = w' := by
  obtain ⟨len, hlen⟩ : ∃ len, len = l.length := ⟨_, rfl⟩
  rw [← hlen]
  rw [← hlen] at hl
  have HL := Lib.hid hlen
  clear hlen
  go_enter Try.func43, Try.ntmps43
  go_wp2
  go_loop [3, 4] (fun n i => ∃ k : Nat, k ≤ len ∧ i = .int .i64 ((k : Int) - 1) ∧ n = .int .u64 (num (l.drop k))) (fun _ i => (intOf i + 1).toNat)
  case atStart => exact ⟨len, Nat.le_refl _, rfl, by rw [List.drop_eq_nil_of_le (by rw [← HL.out]; exact Nat.le_refl _)]; rfl⟩
  case round =>
    obtain ⟨k, hk, rfl, rfl⟩ := hrel
    by_cases hlt : 0 < k
    · obtain ⟨j, rfl⟩ : ∃ j, k = j + 1 := ⟨k - 1, by omega⟩
      obtain ⟨b, o, rfl, hbD, hbw, hc⟩ : ∃ b o, ao = some ⟨b, o, none⟩ ∧ D b ∧ b < w.heap.size ∧ ∀ j, j < l.length → w.cell? ⟨b, o + j, none⟩ = some (.int .u8 ((l.getD j 0).toNat : Int)) := by
        rcases hV with h | h
        · have := HL.out; rw [h] at this; simp at this; omega
        · exact h
      have hnum := num_cons l j (by rw [← HL.out]; omega)
      obtain ⟨c, hcd⟩ : ∃ c, c = l.getD j 0 := ⟨_, rfl⟩
      have hcx : w.cell? ⟨b, o + j, none⟩ = some (.int .u8 (c.toNat : Int)) := by rw [hcd]; exact hc j (by rw [← HL.out]; omega)
      rw [← hcd] at hnum
      obtain ⟨m, hm⟩ : ∃ m, m = num (l.drop (j + 1)) := ⟨_, rfl⟩
      rw [← hm] at hnum ⊢
      have hbd : num (l.drop j) < 2 ^ 64 := Nat.lt_of_lt_of_le (num_lt _) (Nat.pow_le_pow_right (by omega) (by rw [List.length_drop, ← HL.out]; omega))
      have hmb : 256 * m + c.toNat ≤ 18446744073709551615 := by omega
      have hcl := c.toNat_lt
      have HN := Lib.hid hnum
      clear hc hcd hm hnum hbd hV
      go_wp2
      go_round
      case rel => exact ⟨j, by omega, by go_num, by rw [HN.out]; show Value.int _ _ = Value.int _ _; congr 1; omega⟩
      case measure => simp [intOf]
    · obtain rfl : k = 0 := by omega
      go_wp2
      go_ret
      exact ⟨rfl, rfl⟩

end Cod
end Go.Proofs.Ytefbcoakjdjkgaa
