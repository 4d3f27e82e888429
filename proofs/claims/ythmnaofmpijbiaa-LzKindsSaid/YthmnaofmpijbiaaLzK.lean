/- slices.Chunk over bytes: its iterator's contract (a range over a function); objects abide the turn of a block that holds no cells. -/
import Derived.Test.YthmnaofmpijbiaaCpy
import Derived.Test.YthmnaofmpijbiaaLzR
import Derived.RangeFuncNested
import Derived.RangeFuncBound
import Derived.RangeFuncCalls
import Derived.RangeFuncLeaves
import Derived.RangeFuncBox
import Derived.Shelf.Abstract
import Derived.Shelf.RegionOpen
import Derived.WalkKit
import Derived.OwnWalkIn
import Derived.TacticsInMore
import Derived.LoopNIn
import Derived.LoopIn
import Derived.Lib.Hide
namespace Go.Own
open Go.RowKit
/-- an object whose blocks are cells -/
def Asn.cellish (P : Asn) : Prop := ∀ (S : Nat → Prop) (w : World), P.holds S w → ∀ k, S k → ∃ o : Obj, w.heap[k]? = some o ∧ o.isCells = true
theorem Apart.cellish {w : World} : ∀ {Ps : List Asn} {S : Nat → Prop}, Apart w Ps S → (∀ P ∈ Ps, P.cellish) → ∀ k, S k → ∃ o : Obj, w.heap[k]? = some o ∧ o.isCells = true
  | [], _, h, _, k, hk => absurd hk (h k)
  | P :: _, _, ⟨_, _, h1, h2, _, h4⟩, hc, k, hk => ((h4 k).1 hk).elim (hc P (by simp) _ _ h1 k) (fun h => h2.cellish (fun Q hQ => hc Q (by simp [hQ])) k h)
theorem St.abide {B : Nat} {w0 W W' : World} {Ps : List Asn} {row : Option Nat} (h : St B w0 W Ps) (hc : ∀ P ∈ Ps, P.cellish) (hg : W.grownBy W' row) (hr : ∀ r, row = some r → B ≤ r ∧ ∃ o : Obj, W.heap[r]? = some o ∧ o.isCells = false) : St B w0 W' Ps := by
  obtain ⟨hb, hs, S, ha, hB⟩ := h
  have hst : Step (fun k => row = some k) (fun _ => False) W W' := ⟨hg.os, hg.tape, hg.output, hg.size, fun k hk hn => hg.block k hk (fun e => hn e.symm), fun _ h => h.elim⟩
  refine ⟨hb.trans (hst.below hs (fun k e => (hr k e).1)), Nat.le_trans hs hg.size, S, ha.keep hst (fun k hk e => ?_), hB⟩
  obtain ⟨o, ho, hoc⟩ := ha.cellish hc k hk
  obtain ⟨_, o', ho', hoc'⟩ := hr k e
  rw [ho] at ho'
  cases ho'
  rw [hoc] at hoc'
  cases hoc'
theorem ARow.cellish (e : TypeId) (size : Nat) (v : Value) (n : Nat) (xs : List Value) : (ARow e size v n xs).cellish := by
  intro S w h k hk
  have hv := (h.set k).1 hk
  rcases h.own.2 with ⟨rfl, _⟩ | ⟨g, cap, cur, rfl, _, hb, _⟩
  · cases hv
  · obtain rfl : g = k := by simpa [Value.ownBlock] using hv
    exact ⟨_, hb, rfl⟩
theorem ABlk.cellish (b : Nat) (c : Array Value) (t : TypeId) (fz : Nat × Nat) : (ABlk b (.cells c t fz)).cellish := by
  intro S w h k hk
  rw [(h.2 k).1 hk]
  exact ⟨_, h.1, rfl⟩
end Go.Own
namespace Go.Proofs.Ythmnaofmpijbiaa
open Go.RowKit Go.Own Go.Shelf
attribute [local go_sem] Oper.semAt_some
namespace Lz
open Go.MatM Go.LzM Byt

/-- how many parts there are of n bytes, and how long each one is -/
def nch (n : Nat) : Nat := (n + 127) / 128
def chl (n j : Nat) : Nat := min 128 (n - 128 * j)
def come (N k : Nat) : List (Fin N) := (List.finRange N).take k
theorem come_succ (N k : Nat) (h : k < N) : come N (k + 1) = come N k ++ [⟨k, h⟩] := by
  unfold come
  rw [List.take_add_one, List.getElem?_eq_getElem (by simpa using h)]
  simp
theorem come_length (N k : Nat) (h : k ≤ N) : (come N k).length = k := by simp [come, h]
theorem come_all (N : Nat) : come N N = List.finRange N := List.take_of_length_le (by simp)

/-- what a round keeps: the two boxes -/
def KC (Bs Bn : Nat) (W W' : World) : Prop := W'.heap[Bs]? = W.heap[Bs]? ∧ W'.heap[Bn]? = W.heap[Bn]?
theorem KC.refl (Bs Bn : Nat) (W : World) : KC Bs Bn W W := ⟨rfl, rfl⟩
theorem KC.trans {Bs Bn : Nat} {A B C : World} (h : KC Bs Bn A B) (k : KC Bs Bn B C) : KC Bs Bn A C := ⟨k.1.trans h.1, k.2.trans h.2⟩
theorem KC.box1 {Bs Bn : Nat} {A B : World} (h : KC Bs Bn A B) {v : Value} (hc : A.cell? ⟨Bs, 0, none⟩ = some v) : B.cell? ⟨Bs, 0, none⟩ = some v := by
  rw [← hc]; unfold World.cell?; simp only [h.1]
theorem KC.box2 {Bs Bn : Nat} {A B : World} (h : KC Bs Bn A B) {v : Value} (hc : A.cell? ⟨Bn, 0, none⟩ = some v) : B.cell? ⟨Bn, 0, none⟩ = some v := by
  rw [← hc]; unfold World.cell?; simp only [h.2]
theorem KC.drewN {Bs Bn : Nat} {A B : World} (h : KC Bs Bn A B) (n : Nat) : KC Bs Bn A (B.drewN n) := h

set_option maxRecDepth 100000 in
set_option maxHeartbeats 4000000 in
/-- the closure of slices.Chunk -/
theorem chunk1_in (n : Nat) (hn : 1 ≤ n) (l Bs Bn b off len cap : Nat) (hlc : len ≤ cap) (hreach : len ≤ 1000000000) (hcap : cap ≤ maxLen) (J Jx : List (Fin (nch len)) → World → Prop) (hJd : ∀ pre W n, J pre W → J pre (W.drewN n))
    (hY : ∀ pre x W, J pre W → pre.length < nch len → YieldAt Fence.wide (n - 1) Try.prog l #[.slice (some ⟨b, off + 128 * x.1, none⟩) (chl len x.1) (chl len x.1)] W fun e W' =>
      (e = .returned (.bool true) ∧ J (pre ++ [x]) W' ∧ KC Bs Bn W W') ∨ (e = .returned (.bool false) ∧ Jx (pre ++ [x]) W'))
    (W : World) (hBs : W.cell? ⟨Bs, 0, none⟩ = some (.slice (some ⟨b, off, none⟩) len cap)) (hBn : W.cell? ⟨Bn, 0, none⟩ = some (.int .i64 128)) (h0 : J [] W) :
    CallsIn Fence.wide n Try.prog 35 #[.func (.yield l) #[] #[], .pointer (some ⟨Bs, 0, none⟩), .pointer (some ⟨Bn, 0, none⟩)] W fun e W' => (∃ v, e = .returned v) ∧
      ((∃ ys, ys = come (nch len) (nch len) ∧ J ys W') ∨ (∃ pre, True ∧ Jx pre W')) := by
  unfold maxLen at hcap
  refine callsIn_of_wp Try.func35 rfl trivial ?_ rfl
  simp only [Try.ntmps35, List.size_toArray, List.length_cons, List.length_nil, Nat.reduceAdd, Nat.reduceSub, Array.replicate_succ, Array.replicate_zero, List.push_toArray, List.append_toArray, List.nil_append, List.cons_append]
  gi_wp2
  gi_loopw [4] (fun i wr => ∃ k p : Nat, k ≤ nch len ∧ p = 128 * k ∧ i = .int .i64 (p : Int) ∧ J (come (nch len) k) wr ∧ KC Bs Bn W wr)
    (fun i _ => (len + 128) - (intOf i).toNat)
  case atStart => exact ⟨0, 0, Nat.zero_le _, rfl, rfl, h0, KC.refl _ _ _⟩
  case round =>
    obtain ⟨k, p, hk, hp, rfl, hJs, hnx⟩ := hrel
    have hBr := hnx.box1 hBs
    have hBq := hnx.box2 hBn
    by_cases hlt : k < nch len
    · have hpl : p < len := by unfold nch at hlt; omega
      obtain ⟨m, hm⟩ : ∃ m, m = chl len k := ⟨_, rfl⟩
      have hm1 : m ≤ 128 := by rw [hm]; unfold chl; omega
      have hm2 : p + m ≤ len := by rw [hm]; unfold chl; omega
      have hm0 : 0 < m := by rw [hm]; unfold chl; omega
      have hmin : min (128 : Int) ((len - p : Nat) : Int) = (m : Int) := by rw [hm]; unfold chl; omega
      have hmin2 : min (128 : Int) ((len : Int) - (p : Int)) = (m : Int) := by omega
      have hY' := fun n => hY _ ⟨k, hlt⟩ (wr.drewN n) (hJd _ _ n hJs) (by rw [come_length _ _ hk]; exact hlt)
      dsimp only at hY'
      obtain ⟨q, hq⟩ : ∃ q, q = p + m := ⟨_, rfl⟩
      have hpq : (p : Int) + (m : Int) = (q : Int) := by omega
      have hqc : q ≤ cap := by omega
      have hmq : m = q - p := by omega
      rw [← hm, ← hp, hmq] at hY'
      have hpq1 : p ≤ q := by omega
      have HYY := Lib.hid hY'
      clear hY' hq
      have HP := Lib.hid (And.intro hp hk)
      have HN := Lib.hid hnx
      have HM := Lib.hid hm
      have hpc : ¬ cap = p := by omega
      clear hm hp hk hnx hJs hmq
      gi_wp2
      gi_quiet (fail)
      obtain ⟨fn, tmps, assign, body, hy, hR⟩ := HYY.out nq
      have HR := Lib.hid hR
      clear hR
      gi_wp2
      refine HR.out.mono ?_
      rintro e W3 (⟨rfl, hJ3, hk3⟩ | ⟨rfl, hJx3⟩)
      · have hB3 := (KC.trans (HN.out.drewN _) hk3).box2 hBn
        have HJ := Lib.hid hJ3
        have HK3 := Lib.hid (KC.trans (HN.out.drewN _) hk3)
        have HLT := Lib.hid hpl
        clear hJ3 hk3 hy HR hpq hmin hmin2 hqc hpc hBr hBq hm1 hm2 hm0 hpq1 hBs hBn hY
        gi_wp2
        go_roundw
        case rel =>
          refine ⟨k + 1, p + 128, by omega, by have := HP.out.1; omega, by go_num, ?_, HK3.out⟩
          rw [come_succ _ _ hlt]
          exact HJ.out
        case measure => simp [intOf]; omega
      · have HJ := Lib.hid hJx3
        clear hJx3 hy HR hpq hmin hmin2 hqc hpc hBr hBq hm1 hm2 hm0 hpq1 hBs hBn hY
        gi_wp2
        refine bodyPost_ret (results_none rfl _ _ _) rfl ?_
        exact ⟨⟨_, rfl⟩, .inr ⟨_, trivial, HJ.out⟩⟩
    · have hke : k = nch len := by omega
      have hpl : len ≤ p := by rw [hp, hke]; unfold nch; omega
      subst hke
      have HJ := Lib.hid hJs
      clear hp hJs hnx
      gi_wp2
      go_end0
      exact ⟨⟨_, rfl⟩, .inl ⟨_, rfl, HJ.out⟩⟩
end Lz
end Go.Proofs.Ythmnaofmpijbiaa
