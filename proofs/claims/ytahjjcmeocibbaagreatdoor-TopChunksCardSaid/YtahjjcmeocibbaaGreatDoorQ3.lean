/- Merged: FlaA LaxF FlaQ Gri ArrEq Roc TabR TabRb Res TabRc Cod CodA CodB CodC CodD CodE CodS CodP TabRd TabRe Acts TabQ -/
import Derived.Lib.Hide
import Derived.Laws.Rows
import Derived.Laws.StructEq
import Derived.Laws.Cover2
import Derived.Deep.MidRow
import Derived.BigQuiet
import Derived.BigRegion
import Derived.Deep.QuietTactic
import Derived.OwnWalk
import Derived.Test.YtahjjcmeocibbaaGreatDoorRows
import Derived.WalkKit
import Derived.Deep.RegionLaw
import Derived.Deep.DeepMust
import Derived.WalkSpells
import Derived.WalkLawsBesides
import Derived.Test.YtahjjcmeocibbaaGreatDoorQ1
import Derived.Test.YtahjjcmeocibbaaGreatDoorQ2
set_option linter.unusedVariables false
section
namespace Go.Proofs.YtahjjcmeocibbaaGreatDoor
open Go.RowKit Go.Own
namespace Fla
open Go.FlaM Byt
abbrev i64B (x : Int) : Prop := -9223372036854775808 <= x /\ x <= 9223372036854775807
def IView (w : World) (B : Nat) (ao : Option Addr) (l : List Int) : Prop := l = [] \/ ∃ b o, ao = some ⟨b, o, none⟩ /\ b < B /\ b < w.heap.size /\ ∀ j, j < l.length -> w.cell? ⟨b, o + j, none⟩ = some (.int .i64 (l.getD j 0)) /\ i64B (l.getD j 0)
theorem wf64 {a : Int} (h : (Lit.int .i64 a).wf = true) : i64B a := by
 simp [Lit.wf, IntKind.min, IntKind.max, IntKind.signed, IntKind.bits] at h
 unfold i64B
 omega
structure Lies (B : Nat) (w : World) (Ps : List Asn) (ao : Option Addr) (n cap : Nat) (x : List UInt8) : Prop where
 given : Given w ao n cap x
 where_ : (∃ (j : Nat) (e : TypeId), Ps[j]? = some (ARow e 1 (.slice ao n cap) n (x.map byteV))) \/ View w (fun k => k < B) ao x
end Fla
end Go.Proofs.YtahjjcmeocibbaaGreatDoor
end
section
namespace Go.Own
open Go.RowKit
section
variable {P : Program} {ops : Array Oper} {C : World -> Prop}
def Fresh (ops : Array Oper) (F : List Tmp) (listed : Array Bool) (a1 : Act) (w1 : World) : Prop :=
 (∀ (j : Nat) (oj : Oper) (d : Tmp), ops[j]? = some oj -> listed.getD j false = true -> oj.dst = some d -> d ∈ F -> ∃ b, a1.tmps.getD d undef = .pointer (some ⟨b, 0, none⟩) /\ b < w1.heap.size) /\
 ∀ (j k : Nat) (oj ok : Oper) (d d' : Tmp), ops[j]? = some oj -> ops[k]? = some ok -> listed.getD j false = true -> listed.getD k false = true -> oj.dst = some d -> ok.dst = some d' -> d ∈ F -> d' ∈ F -> d ≠ d' -> a1.tmps.getD d undef ≠ a1.tmps.getD d' undef
theorem with_fresh {F : List Tmp} {ob : Obj} {oi : Oper} {i : Nat} {a0 a1 : Act} {w1 : World} {R : Value -> World -> Prop} {K : Act -> World -> Prop} {Q : Exit -> Act -> World -> Prop} (hs : a1.tmps.size = a0.tmps.size)
 (hin : ∀ (k : Nat) (o : Oper) (d : Tmp), ops[k]? = some o -> o.dst = some d -> d < a0.tmps.size) (hoi : ops[i]? = some oi)
 (hF : ∀ (i : Nat) (oi : Oper) (d : Tmp), ops[i]? = some oi -> oi.dst = some d -> d ∈ F -> oi.guard = none /\ ∀ a1 w K Q, oi.wp P a1 w K Q ↔ K (a1.put (some d) (.pointer (some ⟨w.heap.size, 0, none⟩))) (w.alloc ob))
 (h : ∀ (K : Act -> World -> Prop) (Q : Exit -> Act -> World -> Prop), (∀ v w', R v w' -> Below w1.heap.size w1 w' -> K (a1.put oi.dst v) w') -> oi.wp P a1 w1 K Q)
 (k : ∀ v w', R v w' -> Below w1.heap.size w1 w' -> (∀ d, oi.dst = some d -> d ∈ F -> v = .pointer (some ⟨w1.heap.size, 0, none⟩) /\ w1.heap.size < w'.heap.size) -> K (a1.put oi.dst v) w') : oi.wp P a1 w1 K Q := by
 by_cases hd : ∃ d, oi.dst = some d /\ d ∈ F
 · obtain ⟨d, hd, hdF⟩ := hd
   have hi := (hF i oi d hoi hd hdF).2
   obtain ⟨v, e, hv, hb⟩ := (hi a1 w1 _ Q).1 (h (fun a' w' => ∃ v, a' = a1.put oi.dst v /\ R v w' /\ Below w1.heap.size w1 w') Q (fun v w' h1 h2 => ⟨v, rfl, h1, h2⟩))
   have hlt : d < a1.tmps.size := by rw [hs]; exact hin i oi d hoi hd
   have e2 : v = .pointer (some ⟨w1.heap.size, 0, none⟩) := by
    have := congrArg (fun a : Act => a.tmps.getD d undef) e
    simp only [hd] at this
    rw [put_getD a1 d d _ hlt, put_getD a1 d d _ hlt, if_pos rfl, if_pos rfl] at this
    exact this.symm
   refine (hi a1 w1 K Q).2 ?_
   have := k v _ hv hb (fun d' hd' _ => ⟨e2, by simp⟩)
   rw [hd, e2] at this
   exact this
 · exact h K Q (fun v w' h1 h2 => k v w' h1 h2 (fun d h3 h4 => absurd ⟨d, h3, h4⟩ hd))
inductive Reach (md : Region.Mode) (ops : Array Oper) : Oper -> Nat -> Prop
 | one {o : Oper} {e : Edge} {j : Nat} : e ∈ o.after -> Region.binds md e = true -> e.on = j -> Reach md ops o j
 | step {o ok : Oper} {e : Edge} {j : Nat} : e ∈ o.after -> Region.binds md e = true -> ops[e.on]? = some ok -> Reach md ops ok j -> Reach md ops o j
theorem Reach.listed {md : Region.Mode} {ops : Array Oper} {listed : Array Bool} (hc : ∀ (j : Nat) (oj : Oper), ops[j]? = some oj -> listed.getD j false = true -> ∀ e ∈ oj.after, Region.binds md e = true -> listed.getD e.on false = true) {o : Oper} {j : Nat} (h : Reach md ops o j) :
 (∀ e ∈ o.after, Region.binds md e = true -> listed.getD e.on false = true) -> listed.getD j false = true := by
 induction h with
 | one he hb hj => intro ha; rw [<- hj]; exact ha _ he hb
 | step he hb hk _ ih => intro ha; exact ih (hc _ _ hk (ha _ he hb))
theorem wpAny_laxF {md : Region.Mode} {Q' : Exit -> Act -> World -> Prop} (hC : ∀ w w', C w -> Below w.heap.size w w' -> C w') {a0 : Act} {S : Nat -> Lx × Act} (hS0 : S 0 = ([], a0))
 {n : Nat} (hn : n <= ops.size) (hst : ∀ (k : Nat) (o : Oper), k < n -> ops[k]? = some o -> StepT P ops C o (S k).1 (S k).2 (S (k + 1)).1 (S (k + 1)).2)
 (hin : ∀ (k : Nat) (o : Oper) (d : Tmp), ops[k]? = some o -> o.dst = some d -> d < a0.tmps.size)
 (hone : ∀ (j k : Nat) (x y : Oper) (d : Tmp), ops[j]? = some x -> ops[k]? = some y -> x.dst = some d -> y.dst = some d -> j = k)
 (hlex : ∀ (i : Nat) (oi : Oper), ops[i]? = some oi -> (∀ e ∈ oi.after, Region.binds md e = true -> e.on < i) /\ ∀ j oj, i < j -> ops[j]? = some oj -> (∃ e ∈ oj.after, Region.binds md e = true /\ e.on = i) \/ oi.apart ops oj = true)
 (F : List Tmp) (ob : Obj) (hF : ∀ (i : Nat) (oi : Oper) (d : Tmp), ops[i]? = some oi -> oi.dst = some d -> d ∈ F -> oi.guard = none /\ ∀ a1 w K Q, oi.wp P a1 w K Q ↔ K (a1.put (some d) (.pointer (some ⟨w.heap.size, 0, none⟩))) (w.alloc ob))
 (hwait : ∀ (i : Nat) (oi : Oper), n <= i -> ops[i]? = some oi -> ∀ j, j < n -> Reach md ops oi j)
 (hfin : ∀ (fuel : Nat) (listed : Array Bool) (a1 : Act) (w1 : World), (∃ s, (List.range ops.size).filter (fun i => !listed.getD i true) = s /\ s.length = fuel) -> listed.size = ops.size -> (∀ i, i < n -> listed.getD i true = true) -> (∀ j, n <= j -> j < ops.size -> listed.getD j true = false) -> Rep C (S n).1 (S n).2 a1 w1 -> Fresh ops F listed a1 w1 -> wpAny P md ops Q' fuel listed a1 w1) :
 ∀ (fuel : Nat) (listed : Array Bool) (a1 : Act) (w1 : World), (∃ s, (List.range ops.size).filter (fun i => !listed.getD i true) = s /\ s.length = fuel) -> RunInv md n ops C a0 S listed a1 w1 -> Fresh ops F listed a1 w1 -> wpAny P md ops Q' fuel listed a1 w1 := by
 have hready : ∀ listed : Array Bool, listed.size = ops.size -> Region.ready md ops listed = [] -> ∀ i, i < ops.size -> listed.getD i true = true := by
  intro listed hls hr i
  induction i using Nat.strongRecOn with
  | _ i ih =>
   intro hi
   rcases hb : listed.getD i true with _ | _
   · exfalso
     have : i ∈ Region.ready md ops listed := by
      refine mem_ready.2 ⟨hb, ops[i], Array.getElem?_eq_getElem hi, fun e he hbd => ?_⟩
      have h1 := (hlex i _ (Array.getElem?_eq_getElem hi)).1 e he hbd
      have h2 := ih e.on h1 (by omega)
      have h3 : e.on < listed.size := by omega
      simpa [h3] using h2
     rw [hr] at this
     cases this
   · rfl
 have hend : ∀ (fuel : Nat) (listed : Array Bool) (a1 : Act) (w1 : World), (∃ s, (List.range ops.size).filter (fun i => !listed.getD i true) = s /\ s.length = fuel) -> RunInv md n ops C a0 S listed a1 w1 -> Fresh ops F listed a1 w1 -> (∀ i, i < n -> listed.getD i true = true) -> wpAny P md ops Q' fuel listed a1 w1 := by
  intro fuel listed a1 w1 hcnt hI hJ hall
  have hsz := path_sizes hS0 hn hst n (Nat.le_refl _)
  refine hfin fuel listed a1 w1 hcnt hI.lsize hall hI.tail ⟨hI.world, hI.defers.trans hsz.2.symm, hI.size.trans hsz.1.symm, fun t => ?_⟩ hJ
  by_cases hw : ∃ (j : Nat) (oj : Oper), j < n /\ ops[j]? = some oj /\ oj.dst = some t
  · obtain ⟨j, oj, hjn, hj, hd⟩ := hw
    have hjl := (Array.getElem?_eq_some_iff.1 hj).1
    have hl : listed.getD j false = true := by
     have h1 := hall j hjn
     have h2 : j < listed.size := by rw [hI.lsize]; exact hjl
     simpa [h2] using h1
    have h1 := hI.done j oj t hj hl hd
    have h2 := path_other hS0 hn hst hin (t := t) (a1.tmps.getD t undef) w1 (j + 1) (n - (j + 1)) (by omega) (fun i oi h1 h2 hi hdi => by
     have := hone i j oi oj t hi hj hdi hd; omega)
    rw [show j + 1 + (n - (j + 1)) = n by omega] at h2
    exact h2.2 h1
  · have h1 := hI.rest t (fun j oj hj hl hd => by
     by_cases hjn : j < n
     · exact hw ⟨j, oj, hjn, hj, hd⟩
     · have hjl := (Array.getElem?_eq_some_iff.1 hj).1
       have := hI.tail j (by omega) hjl
       have h2 : j < listed.size := by rw [hI.lsize]; exact hjl
       simp [h2] at this hl
       rw [this] at hl; cases hl)
    have h2 := path_other hS0 hn hst hin (t := t) (a1.tmps.getD t undef) w1 0 n (by omega) (fun j oj _ h2 hj hd => hw ⟨j, oj, by omega, hj, hd⟩)
    rw [Nat.zero_add] at h2
    exact h2.2 ((slot0 hS0 t _ w1).2 h1)
 intro fuel
 induction fuel with
 | zero =>
  rintro listed a1 w1 ⟨s, hs, hlen⟩ hI hJ
  refine hend 0 listed a1 w1 ⟨s, hs, hlen⟩ hI hJ (fun i hi => ?_)
  have hnil : s = [] := List.eq_nil_of_length_eq_zero hlen
  subst hnil
  have := List.filter_eq_nil_iff.1 hs i (List.mem_range.2 (by omega))
  simpa using this
 | succ fuel ih =>
  rintro listed a1 w1 ⟨s, hs, hlen⟩ hI hJ
  by_cases hdone : ∀ i, i < n -> listed.getD i true = true
  · exact hend (fuel + 1) listed a1 w1 ⟨s, hs, hlen⟩ hI hJ hdone
  refine ⟨fun h0 => absurd (fun i hi => hready listed hI.lsize h0 i (by omega)) hdone, fun i hi => ?_⟩
  obtain ⟨hun, oi, hoi, hall⟩ := mem_ready.1 hi
  have hin' : i < n := by
   rcases Nat.lt_or_ge i n with h | h
   · exact h
   · exfalso
     refine hdone (fun j hj => ?_)
     have h2 : j < listed.size := by rw [hI.lsize]; omega
     have h1 := (hwait i oi h hoi j hj).listed hI.closed hall
     simpa [h2] using h1
  have hil := (Array.getElem?_eq_some_iff.1 hoi).1
  have hill : i < listed.size := by rw [hI.lsize]; exact hil
  have hunf : listed.getD i false = false := by simpa [hill] using hun
  have hcount : ∃ s', (List.range ops.size).filter (fun j => !(listed.setIfInBounds i true).getD j true) = s' /\ s'.length = fuel := by
   refine ⟨_, rfl, ?_⟩
   have hn : (List.range ops.size).Nodup := List.nodup_range
   have e : (List.range ops.size).filter (fun j => !(listed.setIfInBounds i true).getD j true) = ((List.range ops.size).filter fun j => !listed.getD j true).erase i := by
    rw [List.Nodup.erase_eq_filter (List.Pairwise.filter _ hn), List.filter_filter]
    apply List.filter_congr
    intro j hj
    by_cases hji : j = i
    · subst hji; simp [hill]
    · rw [getD_set_ne true (Ne.symm hji)]; simp [hji]
   rw [e, List.length_erase_of_mem (List.mem_filter.2 ⟨List.mem_range.2 hil, by simp only [hun]; rfl⟩), hs, hlen]
   rfl
  have hlook : ∀ t ∈ oi.looksAt ops, slotIs (S i).1 (S i).2 t (a1.tmps.getD t undef) w1 := by
   intro t ht
   have hback : (∀ (j : Nat) (oj : Oper), ops[j]? = some oj -> oj.dst = some t -> i <= j) -> (∀ (j : Nat) (oj : Oper), ops[j]? = some oj -> oj.dst = some t -> listed.getD j false = false) -> slotIs (S i).1 (S i).2 t (a1.tmps.getD t undef) w1 := by
    intro h1 h2
    have h3 := path_other hS0 hn hst hin (t := t) (a1.tmps.getD t undef) w1 0 i (by omega) (fun j oj _ hj ho hd => by have := h1 j oj ho hd; omega)
    rw [Nat.zero_add] at h3
    refine h3.2 ((slot0 hS0 t _ w1).2 (hI.rest t (fun j oj hj hl hd => ?_)))
    rw [h2 j oj hj hd] at hl; cases hl
   by_cases hw : ∃ (j : Nat) (oj : Oper), ops[j]? = some oj /\ oj.dst = some t
   · obtain ⟨j, oj, hj, hd⟩ := hw
     have huniq : ∀ (j' : Nat) (oj' : Oper), ops[j']? = some oj' -> oj'.dst = some t -> j' = j := fun j' oj' h1 h2 => hone j' j oj' oj t h1 hj h2 hd
     rcases Nat.lt_trichotomy j i with hji | hji | hji
     · rcases (hlex j oj hj).2 i oi hji hoi with ⟨e, he, hb, heq⟩ | hap
       · have hl : listed.getD j false = true := by rw [<- heq]; exact hall e he hb
         have h1 := hI.done j oj t hj hl hd
         have h2 := path_other hS0 hn hst hin (t := t) (a1.tmps.getD t undef) w1 (j + 1) (i - (j + 1)) (by omega) (fun j' oj' h1 _ h3 h4 => by have := huniq j' oj' h3 h4; omega)
         rw [show j + 1 + (i - (j + 1)) = i by omega] at h2
         exact h2.2 h1
       · exact absurd ht ((Oper.apart_spec hap).1 t hd)
     · subst hji
       refine hback (fun j' oj' h1 h2 => by have := huniq j' oj' h1 h2; omega) (fun j' oj' h1 h2 => by rw [huniq j' oj' h1 h2]; exact hunf)
     · rcases (hlex i oi hoi).2 j oj hji hj with ⟨e, he, hb, heq⟩ | hap
       · refine hback (fun j' oj' h1 h2 => by have := huniq j' oj' h1 h2; omega) (fun j' oj' h1 h2 => ?_)
         rw [huniq j' oj' h1 h2]
         rcases hlj : listed.getD j false with _ | _
         · rfl
         · have := hI.closed j oj hj hlj e he hb
           rw [heq, hunf] at this; cases this
       · exact absurd ht ((Oper.apart_spec hap).2.2 t hd)
   · exact hback (fun j oj h1 h2 => absurd ⟨j, oj, h1, h2⟩ hw) (fun j oj h1 h2 => absurd ⟨j, oj, h1, h2⟩ hw)
  have hsz := path_sizes hS0 hn hst i (by omega)
  have hsame : a1.tmps.size = (S i).2.tmps.size := hI.size.trans hsz.1.symm
  have hnext : ∀ (v : Value) (w' : World), (∀ d, oi.dst = some d -> slotIs (S (i + 1)).1 (S (i + 1)).2 d v w') -> Below w1.heap.size w1 w' -> RunInv md n ops C a0 S (listed.setIfInBounds i true) (a1.put oi.dst v) w' := by
   intro v w' hv hb
   have hget : ∀ t, oi.dst ≠ some t -> (a1.put oi.dst v).tmps.getD t undef = a1.tmps.getD t undef := by
    intro t ht
    cases hd : oi.dst with
    | none => rfl
    | some d => rw [put_getD a1 d t v (by rw [hI.size]; exact hin i oi d hoi hd), if_neg (fun e => ht (by rw [hd, e]))]
   have hlist : ∀ j, (listed.setIfInBounds i true).getD j false = true -> j = i \/ listed.getD j false = true := by
    intro j hj
    by_cases hji : j = i
    · exact .inl hji
    · rw [getD_set_ne false (Ne.symm hji)] at hj; exact .inr hj
   refine ⟨hC _ _ hI.world hb, (put_defers _ _ _).trans hI.defers, (put_size _ _ _).trans hI.size, by simpa using hI.lsize, fun j oj hj hl e he hbd => ?_, fun j hnj hjl => ?_, fun j oj d hj hl hd => ?_, fun t ht => ?_⟩
   · rcases hlist j hl with rfl | hl
     · obtain rfl : oj = oi := by rw [hoi] at hj; simpa using hj.symm
       exact getD_set_true (hall e he hbd)
     · exact getD_set_true (hI.closed j oj hj hl e he hbd)
   · rw [getD_set_ne true (by omega)]; exact hI.tail _ hnj hjl
   · rcases hlist j hl with rfl | hl
     · obtain rfl : oj = oi := by rw [hoi] at hj; simpa using hj.symm
       rw [hd, put_getD a1 d d v (by rw [hI.size]; exact hin j oj d hj hd), if_pos rfl]
       exact hv d hd
     · have hne : oi.dst ≠ some d := by
        intro h
        have := hone i j oi oj d hoi hj h hd
        subst this
        rw [hunf] at hl; cases hl
       rw [hget d hne]
       exact (hI.done j oj d hj hl hd).keep hb
   · have hne : oi.dst ≠ some t := ht i oi hoi (by simp [hill])
     rw [hget t hne]
     exact hI.rest t (fun j oj hj hl => ht j oj hj (getD_set_true hl))
  have hlistF : ∀ j, (listed.setIfInBounds i true).getD j false = true -> j = i \/ listed.getD j false = true := by
   intro j hj
   by_cases hji : j = i
   · exact .inl hji
   · rw [getD_set_ne false (Ne.symm hji)] at hj; exact .inr hj
  have hfresh : ∀ (v : Value) (w' : World), (∀ d, oi.dst = some d -> d ∈ F -> v = .pointer (some ⟨w1.heap.size, 0, none⟩) /\ w1.heap.size < w'.heap.size) -> Below w1.heap.size w1 w' -> Fresh ops F (listed.setIfInBounds i true) (a1.put oi.dst v) w' := by
   intro v w' hv hb
   have hget : ∀ t, oi.dst ≠ some t -> (a1.put oi.dst v).tmps.getD t undef = a1.tmps.getD t undef := by
    intro t ht
    cases hd : oi.dst with
    | none => rfl
    | some d => rw [put_getD a1 d t v (by rw [hI.size]; exact hin i oi d hoi hd), if_neg (fun e => ht (by rw [hd, e]))]
   have hself : ∀ d, oi.dst = some d -> (a1.put oi.dst v).tmps.getD d undef = v := by
    intro d hd
    rw [hd, put_getD a1 d d v (by rw [hI.size]; exact hin i oi d hoi hd), if_pos rfl]
   have hother : ∀ (j : Nat) (oj : Oper) (d : Tmp), ops[j]? = some oj -> oj.dst = some d -> j ≠ i -> oi.dst ≠ some d := fun j oj d hj hd hji h => hji (hone j i oj oi d hj hoi hd h)
   refine ⟨fun j oj d hj hl hd hdF => ?_, fun j k oj ok d d' hj hk hlj hlk hd hd' hdF hdF' hne => ?_⟩
   · by_cases hji : j = i
     · subst hji
       obtain rfl : oj = oi := by rw [hoi] at hj; simpa using hj.symm
       obtain ⟨h1, h2⟩ := hv d hd hdF
       exact ⟨_, (hself d hd).trans h1, h2⟩
     · obtain ⟨bk, h1, h2⟩ := hJ.1 j oj d hj ((hlistF j hl).resolve_left hji) hd hdF
       exact ⟨bk, (hget d (hother j oj d hj hd hji)).trans h1, Nat.lt_of_lt_of_le h2 hb.size⟩
   · by_cases hji : j = i
     · subst hji
       obtain rfl : oj = oi := by rw [hoi] at hj; simpa using hj.symm
       have hki : k ≠ j := fun e => by
        subst e
        obtain rfl : ok = oj := by rw [hoi] at hk; simpa using hk.symm
        rw [hd] at hd'
        exact hne (by simpa using hd')
       obtain ⟨bk, h1, h2⟩ := hJ.1 k ok d' hk ((hlistF k hlk).resolve_left hki) hd' hdF'
       rw [hself d hd, hget d' (hother k ok d' hk hd' hki), h1, (hv d hd hdF).1]
       intro e
       simp at e
     · by_cases hki : k = i
       · subst hki
         obtain rfl : ok = oi := by rw [hoi] at hk; simpa using hk.symm
         obtain ⟨bk, h1, h2⟩ := hJ.1 j oj d hj ((hlistF j hlj).resolve_left hji) hd hdF
         rw [hself d' hd', hget d (hother j oj d hj hd hji), h1, (hv d' hd' hdF').1]
         intro e
         simp at e
       · rw [hget d (hother j oj d hj hd hji), hget d' (hother k ok d' hk hd' hki)]
         exact hJ.2 j k oj ok d d' hj hk ((hlistF j hlj).resolve_left hji) ((hlistF k hlk).resolve_left hki) hd hd' hdF hdF' hne
  have hkey : ∀ d, oi.dst = some d -> (S i).1.lookup d = none := fun d hd => path_keys hS0 hn hst i (by omega) (fun j oj h1 h2 h3 => by have := hone j i oj oi d h2 hoi h3 hd; omega)
  have hstep := hst i oi hin' hoi
  unfold wpOp
  simp only [hoi]
  generalize hSi : S i = si at *
  generalize hSj : S (i + 1) = sj at *
  obtain ⟨Ii, ai⟩ := si
  obtain ⟨Ij, aj⟩ := sj
  simp only at hstep hlook hnext hsame hkey
  cases hstep with
  | skip hg hw =>
   rw [wanted_looks hg hsame hlook, hw]
   simp only [Bool.false_eq_true, if_false]
   refine ih _ _ _ hcount (hnext undef w1 (fun d hd => ?_) (Below.refl _ _)) (hfresh undef w1 (fun d hd hdF => ?_) (Below.refl _ _))
   · unfold slotIs
     rw [hkey d hd, hd]
     simp only
     rw [put_getD ai d d undef (by rw [<- hsame, hI.size]; exact hin i oi d hoi hd), if_pos rfl]
   · have h1 := (hF i oi d hoi hd hdF).1
     unfold Region.wanted at hw
     rw [h1] at hw
     cases hw
  | val v hg hw h =>
   rw [wanted_looks hg hsame hlook, hw]
   simp only [if_true]
   refine .inl (with_fresh hI.size hin hoi hF (h a1 w1 hI.world hlook) (fun u w' hu hb hv => ih _ _ _ hcount (hnext u w' (fun d hd => ?_) hb) (hfresh u w' hv hb)))
   unfold slotIs
   rw [hkey d hd, hd]
   simp only
   rw [put_getD ai d d v (by rw [<- hsame, hI.size]; exact hin i oi d hoi hd), if_pos rfl]
   exact hu
  | ty d R hd hg hw h =>
   rw [wanted_looks hg hsame hlook, hw]
   simp only [if_true]
   refine .inl (with_fresh hI.size hin hoi hF (h a1 w1 hI.world hlook) (fun u w' hu hb hv => ih _ _ _ hcount (hnext u w' (fun d' hd' => ?_) hb) (hfresh u w' hv hb)))
   obtain rfl : d = d' := by rw [hd] at hd'; simpa using hd'
   unfold slotIs
   rw [List.lookup_cons]
   simp only [BEq.rfl]
   exact hu
theorem rep_no (m j : Nat) (hl : (Array.replicate m false).getD j false = true) : False := by
 by_cases hi : j < m <;> simp [hi] at hl
theorem tail_any {md : Region.Mode} {Q : Exit -> Act -> World -> Prop} {l : List Oper} {n : Nat} (hlt : ∀ (i : Nat) (oi : Oper), l.toArray[i]? = some oi -> ∀ e ∈ oi.after, Region.binds md e = true -> e.on < i)
 (hch : ∀ (m i : Nat) (oi : Oper), n <= m -> m < i -> l.toArray[i]? = some oi -> ∃ e ∈ oi.after, Region.binds md e = true /\ e.on = m) :
 ∀ (r m : Nat) (listed : Array Bool) (a1 : Act) (w1 : World), m + r = l.length -> n <= m -> listed.size = l.toArray.size -> (∀ i, i < m -> listed.getD i true = true) -> (∀ j, m <= j -> j < l.toArray.size -> listed.getD j true = false) ->
  wpList P l.toArray Q (l.drop m) a1 w1 -> wpAny P md l.toArray Q r listed a1 w1
 | 0, m, listed, a1, w1, hm, hnm, hls, hall, htail, hq => by
  have hnr : Region.ready md l.toArray listed = [] := by
   apply List.eq_nil_iff_forall_not_mem.2
   intro i hi
   obtain ⟨h0, o, ho, _⟩ := mem_ready.1 hi
   have h1 := (Array.getElem?_eq_some_iff.1 ho).1
   have := hall i (by simp at h1; omega)
   rw [this] at h0; cases h0
  rw [List.drop_eq_nil_of_le (by omega)] at hq
  exact wpAny_done hnr hq 0
 | r + 1, m, listed, a1, w1, hm, hnm, hls, hall, htail, hq => by
  have hml : m < l.length := by omega
  obtain ⟨o, ho⟩ : ∃ o, l[m]? = some o := ⟨l[m], by simp [hml]⟩
  have hon : l.toArray[m]? = some o := by simpa using ho
  have hdrop : l.drop m = o :: l.drop (m + 1) := by
   rw [List.drop_eq_getElem_cons hml]
   rw [List.getElem?_eq_getElem hml] at ho
   rw [Option.some.inj ho]
  rw [hdrop] at hq
  have hnl : listed.getD m true = false := htail m (Nat.le_refl _) (by simpa using hml)
  refine ⟨fun h0 => ?_, fun i hi => ?_⟩
  · exfalso
    have : m ∈ Region.ready md l.toArray listed := by
     refine mem_ready.2 ⟨hnl, o, hon, fun e he hb => ?_⟩
     have h1 := hlt m o hon e he hb
     have h2 := hall e.on h1
     have h3 : e.on < listed.size := by rw [hls]; simp; omega
     simpa [h3] using h2
    rw [h0] at this; cases this
  · obtain ⟨hun, oi, hoi, hal⟩ := mem_ready.1 hi
    have hil := (Array.getElem?_eq_some_iff.1 hoi).1
    obtain rfl : i = m := by
     rcases Nat.lt_trichotomy i m with h1 | h1 | h1
     · rw [hall i h1] at hun; cases hun
     · exact h1
     · exfalso
       obtain ⟨e, he, hb, heq⟩ := hch m i oi hnm h1 hoi
       have h2 := hal e he hb
       rw [heq] at h2
       have h3 : m < listed.size := by rw [hls]; simp; omega
       simp [h3] at h2 hnl
       rw [h2] at hnl; cases hnl
    have hmono : ∀ a2 w2, wpList P l.toArray Q (l.drop (i + 1)) a2 w2 -> wpAny P md l.toArray Q r (listed.setIfInBounds i true) a2 w2 := fun a2 w2 h2 =>
     tail_any hlt hch r (i + 1) _ a2 w2 (by omega) (by omega) (by simpa using hls) (fun j hj => by
      by_cases hji : j = i
      · subst hji
        have h3 : j < listed.size := by rw [hls]; exact hil
        simp [h3]
      · rw [getD_set_ne true (Ne.symm hji)]; exact hall j (by omega)) (fun j hj hjl => by
      rw [getD_set_ne true (by omega)]; exact htail j (by omega) hjl) h2
    unfold wpOp
    simp only [hon]
    unfold wpList at hq
    split
    · rename_i hw
      rw [if_pos hw] at hq
      exact hq.imp (Oper.wp_mono hmono) (fun h => h)
    · rename_i hw
      rw [if_neg hw] at hq
      exact hmono _ _ hq
def reachB (l : List Oper) : Nat -> Oper -> Nat -> Bool
 | 0, _, _ => false
 | f + 1, o, j => o.after.any fun e => Region.binds .any e && (e.on == j || match l[e.on]? with
  | some o2 => reachB l f o2 j
  | none => false)
theorem reachB_is {l : List Oper} : ∀ (f : Nat) (o : Oper) (j : Nat), reachB l f o j = true -> Reach .any l.toArray o j
 | 0, _, _, h => by cases h
 | f + 1, o, j, h => by
  unfold reachB at h
  obtain ⟨e, he, hb⟩ := Array.any_eq_true'.1 h
  simp only [Bool.and_eq_true, Bool.or_eq_true, beq_iff_eq] at hb
  rcases hb.2 with h1 | h1
  · exact .one he hb.1 h1
  · split at h1
    · rename_i o2 ho2
      exact .step he hb.1 (by simpa using ho2) (reachB_is f o2 j h1)
    · cases h1
def waitsFB (l : List Oper) (n : Nat) : Bool := (List.range l.length).all fun i => decide (i < n) || match l[i]? with
 | some o => ((List.range n).all fun j => reachB l 12 o j) && (List.range i).all fun m => decide (m < n) || o.after.any fun e => Region.binds .any e && e.on == m
 | none => false
theorem wp_region_laxF {id : Nat} {Q : Exit -> Act -> World -> Prop} {a : Act} {w : World} {l : List Oper} (n : Nat) (hn : n <= l.length) (F : List Tmp) (ob : Obj)
 (hF : ∀ (i : Nat) (oi : Oper) (d : Tmp), l[i]? = some oi -> oi.dst = some d -> d ∈ F -> oi.guard = none /\ ∀ a1 w K Q, oi.wp P a1 w K Q ↔ K (a1.put (some d) (.pointer (some ⟨w.heap.size, 0, none⟩))) (w.alloc ob))
 (hFn : ∀ (i : Nat) (oi : Oper) (d : Tmp), l[i]? = some oi -> oi.dst = some d -> d ∈ F -> i < n) (hFa : ∀ d ∈ F, ∃ (i : Nat) (oi : Oper), l[i]? = some oi /\ oi.dst = some d)
 (hm : P.follows .mixedOrders = true) (hB : Region.lexB .any l.toArray = true) (hD : dstsB l a.tmps.size = true) (hW : waitsFB l n = true)
 (h : wpT P l.toArray (Below w.heap.size w) (fun a' w' => (∀ d d', d ∈ F -> d' ∈ F -> d ≠ d' -> a'.tmps.getD d undef ≠ a'.tmps.getD d' undef) -> wpList P l.toArray Q (l.drop n) a' w') (l.take n) [] a) : (Code.region id l.toArray true).wp P Q a w := by
 obtain ⟨S, hS0, hst, hfin⟩ := wpT_path (l.take n) [] a h
 have hB' : Region.lexFrom .any l.toArray l.toArray.size 0 (Array.replicate l.toArray.size false) = true := by
  simp only [Region.lexB, Bool.and_eq_true] at hB; exact hB.2
 have hlen : (l.take n).length = n := by rw [List.length_take]; omega
 have hlex : ∀ (i : Nat) (oi : Oper), l.toArray[i]? = some oi -> (∀ e ∈ oi.after, Region.binds .any e = true -> e.on < i) /\ ∀ j oj, i < j -> l.toArray[j]? = some oj -> (∃ e ∈ oj.after, Region.binds .any e = true /\ e.on = i) \/ oi.apart l.toArray oj = true :=
  fun i oi hi => lexFrom_free _ 0 _ hB' (by simp) (fun i => by by_cases hi : i < l.length <;> simp [hi]; omega) (by simp) i oi (Nat.zero_le _) hi
 have hW' : ∀ (i : Nat) (oi : Oper), n <= i -> l[i]? = some oi -> (∀ j, j < n -> Reach .any l.toArray oi j) /\ ∀ m, n <= m -> m < i -> ∃ e ∈ oi.after, Region.binds .any e = true /\ e.on = m := by
  intro i oi hi hoi
  have hil := (List.getElem?_eq_some_iff.1 hoi).1
  unfold waitsFB at hW
  have h1 := List.all_eq_true.1 hW i (List.mem_range.2 hil)
  rw [hoi] at h1
  simp only [Bool.or_eq_true, decide_eq_true_eq, Bool.and_eq_true] at h1
  rcases h1 with h1 | ⟨h1, h2⟩
  · omega
  refine ⟨fun j hj => reachB_is _ _ _ (List.all_eq_true.1 h1 j (List.mem_range.2 hj)), fun m hm1 hm2 => ?_⟩
  · have := List.all_eq_true.1 h2 m (List.mem_range.2 hm2)
    simp only [Bool.or_eq_true, decide_eq_true_eq] at this
    rcases this with h3 | h3
    · omega
    obtain ⟨e, he, hb⟩ := Array.any_eq_true'.1 h3
    simp only [Bool.and_eq_true, beq_iff_eq] at hb
    exact ⟨e, he, hb.1, hb.2⟩
 refine wp_region_any hm ?_
 refine wpAny_laxF (P := P) (ops := l.toArray) (C := Below w.heap.size w) (md := .any) (a0 := a) (S := S) (fun w1 w2 h1 h2 => h1.trans (h2.mono h1.size)) hS0 (n := n) (by simpa using hn) (fun k o' hk ho' => hst k o' (by rw [List.getElem?_take_of_lt hk]; simpa using ho'))
  (fun k o d hk hd => dsts_lt hD (k := k) (by simpa using hk) hd) (fun j k x y d hj hk hx hy => dsts_one hD (j := j) (k := k) (by simpa using hj) (by simpa using hk) hx hy)
  hlex F ob (fun i oi d hi => hF i oi d (by simpa using hi)) (fun i oi hi hoi j hj => ?_)
  (fun fuel listed a1 w1 ⟨s, hs, hcnt⟩ hls hall htail hr hfr => ?_) _ _ _ _ ⟨_, rfl, ?_⟩ (start_inv ⟨rfl, rfl, rfl, Nat.le_refl _, fun _ _ => rfl⟩) ⟨fun j oj d hj hl => ?_, fun j k oj ok d d' hj hk hl => ?_⟩
 · exact (hW' i oi hi (by simpa using hoi)).1 j hj
 · have hq := hfin a1 w1 (by rw [hlen]; exact hr) (fun d d' hd hd' hne => by
    obtain ⟨i, oi, hoi, hdi⟩ := hFa d hd
    obtain ⟨k, ok, hok, hdk⟩ := hFa d' hd'
    have g : ∀ (i : Nat) (oi : Oper) (d : Tmp), l[i]? = some oi -> oi.dst = some d -> d ∈ F -> listed.getD i false = true := by
     intro i oi d h1 h2 h3
     have h4 := hall i (hFn i oi d h1 h2 h3)
     have h5 : i < listed.size := by rw [hls]; simpa using (List.getElem?_eq_some_iff.1 h1).1
     simpa [h5] using h4
    exact hfr.2 i k oi ok d d' (by simpa using hoi) (by simpa using hok) (g i oi d hoi hdi hd) (g k ok d' hok hdk hd') hdi hdk hd hd' hne)
   have hfuel : fuel = l.length - n := by
    rw [<- hcnt, <- hs]
    have : (List.range l.toArray.size).filter (fun i => !listed.getD i true) = (List.range (l.length - n)).map (n + ·) := by
     have e : l.toArray.size = n + (l.length - n) := by simp; omega
     rw [e, List.range_add, List.filter_append]
     have h1 : (List.range n).filter (fun i => !listed.getD i true) = [] := by
      apply List.filter_eq_nil_iff.2
      intro i hi
      rw [hall i (List.mem_range.1 hi)]
      simp
     have h2 : ((List.range (l.length - n)).map (n + ·)).filter (fun i => !listed.getD i true) = (List.range (l.length - n)).map (n + ·) := by
      apply List.filter_eq_self.2
      intro i hi
      obtain ⟨k, hk, rfl⟩ := List.mem_map.1 hi
      have := List.mem_range.1 hk
      rw [htail (n + k) (by omega) (by omega)]
      rfl
     rw [h1, h2, List.nil_append]
    rw [this]; simp
   rw [hfuel]
   exact tail_any (n := n) (fun i oi hi => (hlex i oi hi).1) (fun m i oi h1 h2 hoi => (hW' i oi (by omega) (by simpa using hoi)).2 m h1 h2) _ n listed a1 w1 (by omega) (Nat.le_refl _) hls hall htail hq
 · rw [count_none]; simp
 · exact (rep_no _ _ hl).elim
 · exact (rep_no _ _ hl).elim
theorem wp_laxW_list {id : Nat} {Q : Exit -> Act -> World -> Prop} {w : World} {l : List Oper} {fs : List Value} {ds : List Deferred} (n : Nat) (hn : decide (n <= l.length) = true)
 (hm : P.follows .mixedOrders = true) (hB : Region.lexB .any l.toArray = true) (hD : dstsB l fs.length = true) (hW : waitsFB l n = true)
 (h : wpL P l.toArray (Below w.heap.size w) (fun a' w' => (∀ d d', d ∈ ([] : List Tmp) -> d' ∈ ([] : List Tmp) -> d ≠ d' -> a'.tmps.getD d undef ≠ a'.tmps.getD d' undef) -> wpList P l.toArray Q (l.drop n) a' w') ds (l.take n) [] fs) : (Code.region id l.toArray true).wp P Q ⟨fs.toArray, ds⟩ w :=
 wp_region_laxF n (of_decide_eq_true hn) [] (.cells #[] 0) (fun _ _ _ _ _ h => by cases h) (fun _ _ _ _ _ h => by cases h) (fun _ h => by cases h) hm hB (by simpa using hD) hW h
end
end Go.Own
end
section
namespace Go.Proofs.YtahjjcmeocibbaaGreatDoor
open Go.RowKit Go.Own
namespace Fla
open Go.FlaM Byt
def RetYes (w : World) (e : Ending) (w' : World) : Prop := e = .returned (.bool true) /\ Below w.heap.size w w'
abbrev ptr (p : Nat) : Value := .pointer (some ⟨p, 0, none⟩)
abbrev errV (n : Nat) : Value := .int .i64 (n : Int)
structure LiesI (B : Nat) (w : World) (Ps : List Asn) (ao : Option Addr) (n cap : Nat) (l : List Int) : Prop where
 size : l.length = n
 room : n <= cap /\ cap <= maxLen
 nil : ao = none -> cap = 0
 ints : ∀ j, j < n -> i64B (l.getD j 0)
 where_ : (∃ (j : Nat) (b : Nat), Ps[j]? = some (AVals b 3 (l.map (Value.int .i64))) /\ ao = some ⟨b, 0, none⟩) \/ IView w B ao l
structure Kept (W : World) where
 A : Nat -> FS -> Asn
 new : ∀ {B : Nat} {w0 w : World} {Ps : List Asn} (segs pages : Int), Below W.heap.size W w -> Own.St B w0 w Ps -> i64B segs -> i64B pages ->
  Calls Tryz.prog 5 #[.int .i64 segs, .int .i64 pages] w fun e w' => if mayBe segs pages = true then ∃ p, e = .returned (.tuple #[ptr p, errV 0]) /\ Own.St B w0 w' (A p (fresh segs.toNat pages.toNat) :: Ps) else e = .returned (.tuple #[.pointer none, errV 1]) /\ Own.St B w0 w' Ps
 barrier : ∀ {B : Nat} {w0 w : World} {Ps : List Asn} {p : Nat} {s : FS} {N : Nat}, Below W.heap.size W w -> Own.St B w0 w (A p s :: Ps) -> Ok s N -> N <= 10000 ->
  Calls Tryz.prog 13 #[ptr p] w fun e w' => e = .returned (errV (barrier s).2) /\ Own.St B w0 w' (A p (barrier s).1 :: Ps)
 cut : ∀ {B : Nat} {w0 w : World} {Ps : List Asn} {p : Nat} {s : FS} {N : Nat} (after : Int), Below W.heap.size W w -> Own.St B w0 w (A p s :: Ps) -> Ok s N -> N <= 10000 -> i64B after ->
  Calls Tryz.prog 8 #[ptr p, .int .i64 after] w fun e w' => e = .returned (.tuple #[]) /\ Own.St B w0 w' (A p (cut s after) :: Ps)
 crash : ∀ {B : Nat} {w0 w : World} {Ps : List Asn} {p : Nat} {s : FS} {N : Nat} (ao : Option Addr) (n cap : Nat) (l : List Int), Below W.heap.size W w -> Own.St B w0 w (A p s :: Ps) -> Ok s N -> N <= 10000 -> LiesI B w Ps ao n cap l ->
  Calls Tryz.prog 16 #[ptr p, .slice ao n cap] w fun e w' => e = .returned (.tuple #[]) /\ Own.St B w0 w' (A p (crash s l) :: Ps)
 segs : ∀ {B : Nat} {w0 w : World} {Ps : List Asn} {p : Nat} {s : FS} {N : Nat}, Below W.heap.size W w -> Own.St B w0 w (A p s :: Ps) -> Ok s N -> N <= 10000 -> Calls Tryz.prog 25 #[ptr p] w fun e w' => e = .returned (errV s.safe.length) /\ Below w.heap.size w w'
 pages : ∀ {B : Nat} {w0 w : World} {Ps : List Asn} {p : Nat} {s : FS} {N : Nat}, Below W.heap.size W w -> Own.St B w0 w (A p s :: Ps) -> Ok s N -> N <= 10000 -> Calls Tryz.prog 27 #[ptr p] w fun e w' => e = .returned (errV s.pp) /\ Below w.heap.size w w'
end Fla
end Go.Proofs.YtahjjcmeocibbaaGreatDoor
end
section
namespace Go.Own
open Go.RowKit
def AEx {α : Type} (P : α -> Asn) : Asn := ⟨fun S w => ∃ x, (P x).holds S w, fun ⟨x, h⟩ g hd => ⟨x, (P x).keep h g hd⟩, fun ⟨x, h⟩ => (P x).lt h⟩
section
variable {B : Nat} {w0 w w' : World} {Ps Qs : List Asn} {α : Type} {P : α -> Asn}
theorem St.openE (h : St B w0 w (AEx P :: Ps)) : ∃ x, St B w0 w (P x :: Ps) := by
 obtain ⟨hb, hs, S, ⟨S1, S2, ⟨x, h1⟩, h2, h3, h4⟩, hB⟩ := h
 exact ⟨x, hb, hs, S, ⟨S1, S2, h1, h2, h3, h4⟩, hB⟩
theorem St.closeE (x : α) (h : St B w0 w (P x :: Ps)) : St B w0 w (AEx P :: Ps) := by
 obtain ⟨hb, hs, S, ⟨S1, S2, h1, h2, h3, h4⟩, hB⟩ := h
 exact ⟨hb, hs, S, ⟨S1, S2, ⟨x, h1⟩, h2, h3, h4⟩, hB⟩
variable {e : TypeId} {size n cap : Nat} {ao : Option Addr} {xs : List Value}
theorem St.rowLen (H : St B w0 w Ps) (i : Nat) (hi : Ps[i]? = some (ARow e size (.slice ao n cap) n xs)) : xs.length = n * size /\ n <= cap /\ cap <= maxLen /\ (ao = none -> n = 0 /\ cap = 0) := by
 obtain ⟨S, hS, _⟩ := H.at i hi
 obtain ⟨ao', cap', hv, h1, h2, h3, _⟩ := Row.form hS
 simp only [Value.slice.injEq, true_and] at hv
 obtain ⟨rfl, rfl⟩ := hv
 exact ⟨hS.own.1, h1, h2, fun h => ⟨(h3 h).1, (h3 h).2.1⟩⟩
theorem St.rowForm {v : Value} (H : St B w0 w Ps) (i : Nat) (hi : Ps[i]? = some (ARow e size v n xs)) : ∃ ao cap, v = .slice ao n cap := by
 obtain ⟨S, hS, _⟩ := H.at i hi
 obtain ⟨ao', cap', hv, _⟩ := Row.form hS
 exact ⟨ao', cap', hv⟩
theorem St.rowAt (H : St B w0 w Ps) (i : Nat) (hi : Ps[i]? = some (ARow e size (.slice ao n cap) n xs)) (j : Nat) (hj : j < n * size) :
 ∃ g, ao = some ⟨g, 0, none⟩ /\ (∃ u, xs[j]? = some u /\ w.cell? ⟨g, j, none⟩ = some u) /\ w.frozen? ⟨g, j, none⟩ = false /\
  ∀ u : Value, St B w0 (w.setCell ⟨g, j, none⟩ u) (Ps.set i (ARow e size (.slice ao n cap) n (xs.set j u))) := by
 obtain ⟨S, hS, _, put⟩ := H.at i hi
 have hlen := (H.rowLen i hi).1
 obtain ⟨hown, hset⟩ := hS
 rcases hown.2 with ⟨hv, rfl⟩ | ⟨g, cap', cur, hv, h0, hb, hnc, hcm, hcs, htake⟩
 · omega
 · simp only [Value.slice.injEq, true_and] at hv
   obtain ⟨rfl, rfl⟩ := hv
   have hx : xs[j]? = some xs[j] := List.getElem?_eq_getElem (by omega)
   have hcur : cur[j]? = some xs[j] := by
    have : (cur.toList.take (n * size))[j]? = xs[j]? := by rw [htake]
    rw [List.getElem?_take_of_lt hj] at this
    rw [<- Array.getElem?_toList, this, hx]
   refine ⟨g, rfl, ⟨_, hx, cell_of_block hb hcur⟩, frozen_of_block hb, fun u => ?_⟩
   exact put S _ (ARow e size (.slice (some ⟨g, 0, none⟩) n cap) n (xs.set j u)) ⟨(hown.stored j u).1, hset⟩ ((Step.refl S w).setCell (a := ⟨g, j, none⟩) (Or.inl ((hset g).2 rfl)) _)
theorem St.rowFresh (H : St B w0 w Ps) : St B w0 w (ARow e size (.slice none 0 0) 0 [] :: Ps) :=
 H.new (S' := fun _ => False) (ARow e size _ 0 []) (Row.nil w e size) (Step.refl (fun _ => False) w)
end
section
variable {t e : TypeId} {α : Type} {enc : α -> Value}
abbrev gsl (r : Option Addr × Nat) (n : Nat) : Value := .slice r.1 n r.2
def gRow (e : TypeId) (enc : α -> Value) (r : Option Addr × Nat) (row : List α) : Asn := ARow e 1 (gsl r row.length) row.length (row.map enc)
def gOuter (t : TypeId) (v : Value) (rs : List (Option Addr × Nat)) (rows : List (List α)) : Asn := ARow t 1 v rows.length (List.zipWith (fun r row => gsl r row.length) rs rows)
def gParts (t e : TypeId) (enc : α -> Value) (v : Value) (rs : List (Option Addr × Nat)) (rows : List (List α)) : List Asn := gOuter t v rs rows :: List.zipWith (gRow e enc) rs rows
def AGrid (t e : TypeId) (enc : α -> Value) (v : Value) (rows : List (List α)) : Asn := AEx (α := { rs : List (Option Addr × Nat) // rs.length = rows.length }) fun rs => AJoin (gParts t e enc v rs.1 rows)
variable {B : Nat} {w0 w w' : World} {Ps Qs : List Asn} {v : Value} {rows : List (List α)}
theorem St.gridOpen (h : St B w0 w (AGrid t e enc v rows :: Ps)) : ∃ rs, rs.length = rows.length /\ St B w0 w (gParts t e enc v rs rows ++ Ps) := by
 obtain ⟨⟨rs, hl⟩, h⟩ := h.openE
 exact ⟨rs, hl, h.openJ⟩
theorem St.gridClose {rs : List (Option Addr × Nat)} (hl : rs.length = rows.length) (h : St B w0 w (gParts t e enc v rs rows ++ Ps)) : St B w0 w (AGrid t e enc v rows :: Ps) :=
 St.closeE (α := { rs : List (Option Addr × Nat) // rs.length = rows.length }) (P := fun rs => AJoin (gParts t e enc v rs.1 rows)) ⟨rs, hl⟩ h.closeJ
theorem zip_set {β γ δ : Type} (f : β -> γ -> δ) : ∀ (rs : List β) (xs : List γ) (i : Nat) (r : β) (x : γ), rs[i]? = some r -> (List.zipWith f rs xs).set i (f r x) = List.zipWith f rs (xs.set i x)
 | [], _, _, _, _, h => by simp at h
 | _ :: _, [], i, _, _, _ => by simp
 | r :: rs, x :: xs, 0, _, _, h => by simp at h; subst h; simp
 | r :: rs, x :: xs, i + 1, _, _, h => by simp only [List.zipWith_cons_cons, List.set_cons_succ]; rw [zip_set f rs xs i _ _ (by simpa using h)]
theorem zip_at {β γ δ : Type} (f : β -> γ -> δ) (rs : List β) (xs : List γ) (i : Nat) (r : β) (x : γ) (h1 : rs[i]? = some r) (h2 : xs[i]? = some x) : (List.zipWith f rs xs)[i]? = some (f r x) := by
 rw [List.getElem?_zipWith, h1, h2]
theorem zip_same {β γ δ : Type} (f g : β -> γ -> δ) (rs : List β) (xs : List γ) (i : Nat) (x y : γ) (h1 : xs[i]? = some x) (h : ∀ r, f r x = f r y) : List.zipWith f rs (xs.set i y) = List.zipWith f rs xs := by
 apply List.ext_getElem?
 intro j
 rw [List.getElem?_zipWith, List.getElem?_zipWith]
 by_cases hj : i = j
 · subst hj
   rw [h1, List.getElem?_set_self (List.getElem?_eq_some_iff.1 h1).1]
   cases rs[i]? with
   | none => rfl
   | some r => simp [h r]
 · rw [List.getElem?_set_ne hj]
end
structure One (P : Program) (t e : TypeId) (z : Value) (bytes : Nat) : Prop where
 slice : P.underlying t = some (.slice e)
 info : (P.info? e).map (fun i => (i.zero, i.size, i.bytes)) = some (some z, 1, bytes)
 cell : z.cells.size = 1
theorem info_parts' {P : Program} {e : TypeId} {z : Value} {bytes : Nat} (h : (P.info? e).map (fun i => (i.zero, i.size, i.bytes)) = some (some z, 1, bytes)) : ∃ i, P.info? e = some i /\ i.zero = some z /\ i.size = 1 /\ i.bytes = bytes := by
 obtain ⟨i, h1, h2⟩ := Option.map_eq_some_iff.1 h
 simp only [Prod.mk.injEq] at h2
 exact ⟨i, h1, h2.1, h2.2.1, h2.2.2⟩
section
variable {P : Program} {t e : TypeId} {z : Value} {bytes : Nat} {B : Nat} {w0 w : World} {Ps : List Asn} {v : Value}
theorem wpList_one_append {ops : Array Oper} {rest : List Oper} {o : Oper} {a : Act} {Q : Exit -> Act -> World -> Prop} (O : One P t e z bytes) (hgd : o.guard = none) (s x : Operand)
 (ho : o.op = .call { callee := .builtin .append, args := #[s, x], argTypes := #[t, t] }) (H : St B w0 w Ps) (i : Nat) {n : Nat} {xs : List Value} (hi : Ps[i]? = some (ARow e 1 v n xs)) (hs : a.eval s = v)
 (bo : Addr) (y : Value) (hx : a.eval x = .slice (some bo) 1 1) (hbo : bo.spot = none) (hc : w.cell? bo = some y) (h1 : y.oneCell' = true) (b1 : n + 1 <= 100000000) (b2 : bytes <= 1000)
 (h : ∀ ao' cap' w', St B w0 w' (Ps.set i (ARow e 1 (.slice ao' (n + 1) cap') (n + 1) (xs ++ [y]))) -> wpList P ops Q rest (a.put o.dst (.slice ao' (n + 1) cap')) w') : wpList P ops Q (o :: rest) a w := by
 obtain ⟨i0, hi0, hz0, hz1, hz2⟩ := info_parts' O.info
 obtain ⟨S, hS, _, put⟩ := H.at i hi
 refine wpList_append_row hgd s x t ho e i0 z 1 bytes O.slice hi0 hz0 hz1 hz2 O.cell (by decide) v n xs hs hS (some bo) 1 1 [y] hx (by intro h; cases h) rfl (fun a ha j u hu => ?_) (fun u hu => by simp at hu; subst hu; exact h1) (by unfold maxLen; omega) ?_ ?_
 · cases ha
   match j, hu with
   | 0, hu =>
    simp only [List.getElem?_cons_zero, Option.some.injEq] at hu
    subst hu
    obtain ⟨b, o, sp⟩ := bo
    simp only at hbo
    subst hbo
    exact hc
 · exact Nat.le_trans (Nat.mul_le_mul b1 b2) (by decide)
 · intro v' w' T' hrow hst
   obtain ⟨ao', cap', rfl, _⟩ := hrow.form
   exact h ao' cap' w' (put T' w' (ARow e 1 (.slice ao' (n + 1) cap') (n + 1) (xs ++ [y])) hrow hst)
theorem wpList_grid_append {ops : Array Oper} {rest : List Oper} {o : Oper} {a : Act} {Q : Exit -> Act -> World -> Prop} {α : Type} {enc : α -> Value} {t2 : TypeId} (O : One P t2 t z bytes) (hgd : o.guard = none) (s x : Operand)
 (ho : o.op = .call { callee := .builtin .append, args := #[s, x], argTypes := #[t2, t2] }) {row : List α} {rows : List (List α)} {ao : Option Addr} {cap : Nat} (H : St B w0 w (AGrid t e enc v rows :: ARow e 1 (.slice ao row.length cap) row.length (row.map enc) :: Ps)) (hs : a.eval s = v)
 (bo : Addr) (hx : a.eval x = .slice (some bo) 1 1) (hbo : bo.spot = none) (hc : w.cell? bo = some (.slice ao row.length cap)) (b1 : rows.length + 1 <= 100000000) (b2 : bytes <= 1000)
 (h : ∀ ao' cap' w', St B w0 w' (AGrid t e enc (.slice ao' (rows.length + 1) cap') (rows ++ [row]) :: Ps) -> wpList P ops Q rest (a.put o.dst (.slice ao' (rows.length + 1) cap')) w') : wpList P ops Q (o :: rest) a w := by
 obtain ⟨rs, hl, hg⟩ := H.gridOpen
 refine wpList_one_append O hgd s x ho hg 0 (n := rows.length) (xs := List.zipWith (fun r row => gsl r row.length) rs rows) rfl hs bo _ hx hbo hc rfl b1 b2 ?_
 intro ao' cap' w' h'
 refine h ao' cap' w' (St.gridClose (rs := rs ++ [(ao, cap)]) (by simp [hl]) ?_)
 have e1 : gParts t e enc (.slice ao' (rows.length + 1) cap') (rs ++ [(ao, cap)]) (rows ++ [row]) ++ Ps
  = (gParts t e enc v rs rows ++ ARow e 1 (.slice ao row.length cap) row.length (row.map enc) :: Ps).set 0 (ARow t 1 (.slice ao' (rows.length + 1) cap') (rows.length + 1) (List.zipWith (fun r row => gsl r row.length) rs rows ++ [.slice ao row.length cap])) := by
  unfold gParts gOuter
  rw [List.zipWith_append hl, List.zipWith_append hl, List.length_append, List.length_singleton, List.cons_append, List.cons_append, List.set_cons_zero, List.append_assoc]
  rfl
 rw [e1]
 exact h'
theorem St.oneMake (O : One P t e z bytes) (H : St B w0 w Ps) (kl kc : IntKind) (n : Nat) (hn : n <= 100000000) (b2 : bytes <= 1000) (hz : z.cells = #[z]) :
 ∃ w' g, (Instr.makeSlice t (.int kl (n : Int)) (.int kc (n : Int))).run P w = .ok (.slice (some ⟨g, 0, none⟩) n n) w' /\ St B w0 w' (ARow e 1 (.slice (some ⟨g, 0, none⟩) n n) n (List.replicate n z) :: Ps) := by
 obtain ⟨i0, hi, hz0, hz1, hz2⟩ := info_parts' O.info
 obtain ⟨w', hr, hown, hg⟩ := run_make_full (P := P) w 0 t e i0 z 1 O.slice hi hz0 hz1 kl kc n (by rw [hz2]; exact Nat.le_trans (Nat.mul_le_mul b2 hn) (by decide)) (by unfold maxLen; omega) (Nat.zero_le _)
 have em : (madeCells z.cells (n * 1)).toList = List.replicate n z := by
  rw [hz]
  unfold madeCells
  apply List.ext_getElem?
  intro i
  by_cases hi : i < n
  · simp [hi, Nat.mod_one]
  · simp [hi]
 rw [em] at hown
 refine ⟨w', w.heap.size, hr, H.new (S' := fun k => k = w.heap.size) (ARow e 1 _ n _) ⟨hown, fun k => by simp [Value.ownBlock, eq_comm]⟩ ?_⟩
 exact ((Step.refl (fun _ => False) w).grown hg (by intro k hk; cases hk)).to (fun k hk => .inr (Nat.le_of_eq hk.symm))
theorem St.gridNil {α : Type} {enc : α -> Value} (H : St B w0 w Ps) : St B w0 w (AGrid t e enc (.slice none 0 0) [] :: Ps) :=
 St.gridClose (rs := []) rfl H.rowFresh
end
end Go.Own
end
section
namespace Go.Own
open Go.RowKit
theorem run_equalIn_ints {P : Program} (d : Nat) (t e : TypeId) (k : IntKind) (l m : List Int) (hlm : l.length = m.length) (ht : P.underlying t = some (.array l.length e)) (he : P.underlying e = some (.int k)) (hse : ∀ w, (sizeOf e).run P w = .ok 1 w) (ha : ∀ w, (isAgg e).run P w = .ok false w) (w : World) :
 (Op.equalIn (d + 2) t (.agg (l.map (Value.int k)).toArray) (.agg (m.map (Value.int k)).toArray)).run P w = .ok (decide (l = m)) w := by
 rw [show d + 2 = (d + 1) + 1 from rfl, Op.equalIn]
 simp only [Sem.run_bind, run_underlying ht, Result.andThen_ok]
 simp only [Std.Legacy.Range.forIn_eq_forIn_range', Std.Legacy.Range.size, Nat.sub_zero, Nat.add_sub_cancel, Nat.div_one]
 simp only [hse, Result.andThen_ok, Nat.mul_one]
 have part_at : ∀ (l : List Int) (j : Nat) (h : j < l.length), (part e (l.map (Value.int k)).toArray j).run P w = .ok (.int k l[j]) w := by
  intro l j h
  unfold part
  simp only [Sem.run_bind, ha, Result.andThen_ok]
  simp [h, go_sem]
 obtain ⟨g, hg⟩ : ∃ g : Nat -> Option Bool × Unit -> Sem (ForInStep (Option Bool × Unit)), g = (fun i __s => do
  let __do_lift <- part e (List.map (Value.int k) l).toArray i
  let __do_lift_1 <- part e (List.map (Value.int k) m).toArray i
  let __do_lift <- Op.equalIn (d + 1) e __do_lift __do_lift_1
  if (!__do_lift) = true then pure (ForInStep.done (some false, ())) else pure (ForInStep.yield (none, ()))) := ⟨_, rfl⟩
 have hrun : ∀ (j : Nat) (h1 : j < l.length) (h2 : j < m.length), (g j (none, ())).run P w = .ok (if l[j] = m[j] then ForInStep.yield (none, ()) else ForInStep.done (some false, ())) w := by
  intro j h1 h2
  rw [hg]
  simp only [Sem.run_bind, part_at l j h1, part_at m j h2, Result.andThen_ok, run_equalIn_int _ d e k k _ _ he]
  by_cases h : l[j] = m[j]
  · rw [if_pos h, h]; simp
  · rw [if_neg h]; simp [h]
 rw [<- hg]
 clear hg
 have aux : ∀ (s j : Nat), j + s = l.length -> (forIn (m := Sem) (List.range' j s) ((none, ()) : Option Bool × Unit) g).run P w =
  .ok (if l.drop j = m.drop j then (none, ()) else (some false, ())) w := by
  intro s
  induction s with
  | zero =>
   intro j hj
   rw [List.drop_eq_nil_of_le (by omega), List.drop_eq_nil_of_le (by omega)]
   simp
  | succ s ih =>
   intro j hj
   have h1 : j < l.length := by omega
   have h2 : j < m.length := by omega
   rw [List.range'_succ, List.forIn_cons, Sem.run_bind, hrun j h1 h2, Result.andThen_ok]
   have e1 : l.drop j = l[j] :: l.drop (j + 1) := List.drop_eq_getElem_cons h1
   have e2 : m.drop j = m[j] :: m.drop (j + 1) := List.drop_eq_getElem_cons h2
   by_cases h : l[j] = m[j]
   · rw [if_pos h]
     show (forIn (m := Sem) (List.range' (j + 1) s) ((none, ()) : Option Bool × Unit) g).run P w = _
     rw [ih (j + 1) (by omega), e1, e2, h]
     by_cases hd : l.drop (j + 1) = m.drop (j + 1)
     · rw [if_pos hd, if_pos (by rw [hd])]
     · rw [if_neg hd, if_neg (fun hc => hd (List.cons.inj hc).2)]
   · rw [if_neg h, if_neg]
     · simp
     · rw [e1, e2]
       intro hc
       exact h (List.cons.inj hc).1
 rw [aux l.length 0 (by omega)]
 simp only [List.drop_zero]
 by_cases h : l = m
 · simp [h]
 · simp [h]
end Go.Own
end
section
namespace Go.Own
open Go.RowKit
section
variable {B : Nat} {w0 : World} {e : TypeId} {size n cap : Nat}
theorem St.rowCells (i : Nat) {g : Nat} : ∀ (r : List Value) (o : Nat) (w : World) (Ps : List Asn) (xs : List Value), St B w0 w Ps -> Ps[i]? = some (ARow e size (.slice (some ⟨g, 0, none⟩) n cap) n xs) -> o + r.length <= n * size ->
 St B w0 (w.setCells g o r) (Ps.set i (ARow e size (.slice (some ⟨g, 0, none⟩) n cap) n (xs.take o ++ r ++ xs.drop (o + r.length))))
 | [], o, w, Ps, l, h, hi, hl => by
  have ee : l.take o ++ [] ++ l.drop (o + ([] : List Value).length) = l := by simp
  rw [ee]
  have hs : Ps.set i (ARow e size (.slice (some ⟨g, 0, none⟩) n cap) n l) = Ps := by
   apply List.ext_getElem?
   intro j
   by_cases hj : j = i
   · subst hj
     rw [List.getElem?_set_self (List.getElem?_eq_some_iff.1 hi).1, hi]
   · rw [List.getElem?_set_ne (Ne.symm hj)]
  rw [hs]
  exact h
 | c :: r, o, w, Ps, l, h, hi, hl => by
  have hlen := (h.rowLen i hi).1
  have hon : o < n * size := by simp at hl; omega
  obtain ⟨g', hg', _, _, put⟩ := h.rowAt i hi o hon
  cases hg'
  have hlt : i < Ps.length := (List.getElem?_eq_some_iff.1 hi).1
  have h2 := St.rowCells i r (o + 1) _ _ (l.set o c) (put c) (by rw [List.getElem?_set_self hlt]) (by simp at hl ⊢; omega)
  rw [List.set_set] at h2
  have ee : (l.set o c).take (o + 1) ++ r ++ (l.set o c).drop (o + 1 + r.length) = l.take o ++ (c :: r) ++ l.drop (o + (c :: r).length) := by
   have ho : o < l.length := by omega
   have e0 : (l.set o c).take o = l.take o := by
    apply List.ext_getElem?
    intro j
    by_cases hj : j < o
    · rw [List.getElem?_take_of_lt hj, List.getElem?_take_of_lt hj, List.getElem?_set_ne (by omega)]
    · rw [List.getElem?_eq_none (by simp; omega), List.getElem?_eq_none (by simp; omega)]
   have e1 : (l.set o c).drop (o + 1 + r.length) = l.drop (o + (c :: r).length) := by
    apply List.ext_getElem?
    intro j
    rw [List.getElem?_drop, List.getElem?_drop, List.getElem?_set_ne (by omega)]
    congr 1
    simp
    omega
   rw [List.take_succ_eq_append_getElem (by simpa using ho), e0, e1]
   simp
  rw [ee] at h2
  exact h2
theorem St.rowRange {w : World} {Ps : List Asn} (H : St B w0 w Ps) (i : Nat) {g : Nat} {xs : List Value} (hi : Ps[i]? = some (ARow e size (.slice (some ⟨g, 0, none⟩) n cap) n xs)) (j : Nat) (hj : j < n * size) : w.cell? ⟨g, j, none⟩ = xs[j]? /\ w.frozen? ⟨g, j, none⟩ = false := by
 obtain ⟨g', hg', ⟨u, hu, hc⟩, hf, _⟩ := H.rowAt i hi j hj
 cases hg'
 exact ⟨by rw [hc, hu], hf⟩
end
theorem flat_at {α : Type} (f : α -> List Value) (c : Nat) : ∀ (L : List α), (∀ a ∈ L, (f a).length = c) -> ∀ (k : Nat) (a : α), L[k]? = some a -> ∀ j, j < c -> (L.flatMap f)[k * c + j]? = (f a)[j]?
 | [], _, k, a, h, _, _ => by simp at h
 | x :: L, hl, 0, a, h, j, hj => by
  have h2 : x = a := by simpa using h
  subst h2
  have hx := hl x (List.mem_cons_self ..)
  rw [Nat.zero_mul, Nat.zero_add, List.flatMap_cons, List.getElem?_append_left (by omega)]
 | x :: L, hl, k + 1, a, h, j, hj => by
  have hx := hl x (List.mem_cons_self ..)
  rw [List.flatMap_cons, List.getElem?_append_right (by rw [hx, Nat.add_mul]; omega), hx, show (k + 1) * c + j - c = k * c + j by rw [Nat.add_mul]; omega]
  exact flat_at f c L (fun y hy => hl y (List.mem_cons_of_mem _ hy)) k a (by simpa using h) j hj
theorem flat_length {α : Type} (f : α -> List Value) (c : Nat) : ∀ (L : List α), (∀ a ∈ L, (f a).length = c) -> (L.flatMap f).length = L.length * c
 | [], _ => by simp
 | x :: L, hl => by
  rw [List.flatMap_cons, List.length_append, hl x (List.mem_cons_self ..), flat_length f c L (fun y hy => hl y (List.mem_cons_of_mem _ hy)), List.length_cons, Nat.add_mul, Nat.one_mul, Nat.add_comm]
theorem eqlNilIn {P : Program} (w : World) (d : Nat) (t e : TypeId) (a : Option Addr) (l c : Nat) (h : P.underlying t = some (.slice e)) : (Op.equalIn (d + 1) t (.slice a l c) (.slice none 0 0)).run P w = .ok a.isNone w := by
 cases a <;> simp [Op.equalIn, run_underlying h]
theorem eqlNil {P : Program} (w : World) (t e : TypeId) (a : Option Addr) (l c : Nat) (h : P.underlying t = some (.slice e)) : (binOp .eql t (.slice a l c) (.slice none 0 0)).run P w = .ok (.bool a.isNone) w := by
 have h2 : (Op.equal t (.slice a l c) (.slice none 0 0)).run P w = .ok a.isNone w := eqlNilIn w 9999 t e a l c h
 simp [binOp, h2]
structure Many (P : Program) (t e : TypeId) (size bytes : Nat) : Prop where
 slice : P.underlying t = some (.slice e)
 info : (P.info? e).map (fun i => (i.zero.map (·.cells.size), i.size, i.bytes)) = some (some size, size, bytes)
 pos : 0 < size
section
variable {P : Program} {B : Nat} {w0 w : World} {Ps : List Asn} {t e : TypeId} {size bytes : Nat}
theorem St.emptyRow (H : St B w0 w Ps) (e : TypeId) (size : Nat) : St B w0 (w.alloc (.cells #[] e)) (ARow e size (.slice (some ⟨w.heap.size, 0, none⟩) 0 0) 0 [] :: Ps) :=
 H.new (S' := fun k => k = w.heap.size) (ARow e size _ 0 []) (Row.made w (#[] : Array Value) e size 0 (Nat.zero_le _) (by simp)) (((Step.refl (fun _ => False) w).alloc (.cells #[] e)).to (fun k hk => .inr (Nat.le_of_eq hk.symm)))
theorem run_many_append (O : Many P t e size bytes) (H : St B w0 w Ps) (i : Nat) {v : Value} {n : Nat} {xs : List Value} (hi : Ps[i]? = some (ARow e size v n xs)) (ty : TypeId)
 (ao : Option Addr) (m c : Nat) (news : List Value) (hno : ao = none -> m = 0 /\ c = 0) (hl : news.length = m * size) (hc : ∀ a, ao = some a -> ∀ j u, news[j]? = some u -> w.cell? (a.add j) = some u) (h1 : ∀ u ∈ news, u.oneCell' = true) (b1 : n + m <= 1000000) (b2 : bytes <= 10000) :
 ∃ ao' cap' w', (Builtin.append_ #[t, t] ty #[v, .slice ao m c]).run P w = .ok (.slice ao' (n + m) cap') w' /\ St B w0 w' (Ps.set i (ARow e size (.slice ao' (n + m) cap') (n + m) (xs ++ news))) := by
 obtain ⟨i0, hi0, hz⟩ := Option.map_eq_some_iff.1 O.info
 simp only [Prod.mk.injEq] at hz
 obtain ⟨hz0, hz1, hz2⟩ := hz
 obtain ⟨z, hz3, hz4⟩ := Option.map_eq_some_iff.1 hz0
 obtain ⟨S, hS, _, put⟩ := H.at i hi
 obtain ⟨v', w', T', hr, hrow, hst⟩ := run_append_row (P := P) w t ty e i0 z size bytes O.slice hi0 hz3 hz1 hz2 hz4 O.pos v n xs hS ao m c news hno hl hc h1 (by unfold maxLen; omega) (Nat.le_trans (Nat.mul_le_mul b1 b2) (by decide))
 obtain ⟨ao', cap', rfl, _⟩ := hrow.form
 exact ⟨ao', cap', w', hr, put T' w' (ARow e size (.slice ao' (n + m) cap') (n + m) (xs ++ news)) hrow hst⟩
theorem wpList_many_append {ops : Array Oper} {rest : List Oper} {o : Oper} {a : Act} {Q : Exit -> Act -> World -> Prop} (O : Many P t e size bytes) (hgd : o.guard = none) (s x : Operand)
 (ho : o.op = .call { callee := .builtin .append, args := #[s, x], argTypes := #[t, t] }) (H : St B w0 w Ps) (i : Nat) {v : Value} {n : Nat} {xs : List Value} (hi : Ps[i]? = some (ARow e size v n xs)) (hs : a.eval s = v)
 (ao : Option Addr) (m c : Nat) (news : List Value) (hx : a.eval x = .slice ao m c) (hno : ao = none -> m = 0 /\ c = 0) (hl : news.length = m * size) (hc : ∀ a, ao = some a -> ∀ j u, news[j]? = some u -> w.cell? (a.add j) = some u) (h1 : ∀ u ∈ news, u.oneCell' = true) (b1 : n + m <= 1000000) (b2 : bytes <= 10000)
 (h : ∀ ao' cap' w', St B w0 w' (Ps.set i (ARow e size (.slice ao' (n + m) cap') (n + m) (xs ++ news))) -> wpList P ops Q rest (a.put o.dst (.slice ao' (n + m) cap')) w') : wpList P ops Q (o :: rest) a w := by
 refine wpList_plain hgd fun K hK => ?_
 obtain ⟨ao', cap', w', hrun, h1⟩ := run_many_append O H i hi o.type ao m c news hno hl hc h1 b1 b2
 unfold Oper.wp
 simp [execOp, ho, resolve, invoke, builtin, hs, hx, hrun, Result.andThen]
 exact hK _ _ (h ao' cap' w' h1)
theorem St.rowNews {n cap : Nat} {ao : Option Addr} {xs : List Value} (H : St B w0 w Ps) (i : Nat) (hi : Ps[i]? = some (ARow e size (.slice ao n cap) n xs)) : ∀ a, ao = some a -> ∀ j u, xs[j]? = some u -> w.cell? (a.add j) = some u := by
 intro a ha j u hu
 subst ha
 have hl := (H.rowLen i hi).1
 have hj := (List.getElem?_eq_some_iff.1 hu).1
 obtain ⟨g, hg, ⟨x, hx, hc⟩, _, _⟩ := H.rowAt i hi j (by omega)
 cases hg
 rw [add_of, Nat.zero_add, hc, <- hx, hu]
theorem St.perm_app {Xs Ys Zs : List Asn} (h : St B w0 w (Xs ++ (Ys ++ Zs))) : St B w0 w (Ys ++ (Zs ++ Xs)) := h.perm (by
 have : (Xs ++ (Ys ++ Zs)).Perm ((Ys ++ Zs) ++ Xs) := List.perm_append_comm
 rwa [List.append_assoc] at this)
end
section
variable {P : Program} {t e : TypeId} {size bytes : Nat} {B : Nat} {w0 w : World} {Ps : List Asn}
theorem St.manyMake {zs : List Value} {z : Value} (O : Many P t e size bytes) (hz : (P.info? e).bind (·.zero) = some z) (hzs : z.cells = zs.toArray) (H : St B w0 w Ps) (kl kc : IntKind) (n : Nat) (hn : n <= 100000) (b2 : bytes <= 10000) :
 ∃ w' g, (Instr.makeSlice t (.int kl (n : Int)) (.int kc (n : Int))).run P w = .ok (.slice (some ⟨g, 0, none⟩) n n) w' /\ St B w0 w' (ARow e size (.slice (some ⟨g, 0, none⟩) n n) n ((List.replicate n zs).flatten) :: Ps) := by
 obtain ⟨i0, hi0, hq⟩ := Option.map_eq_some_iff.1 O.info
 simp only [Prod.mk.injEq] at hq
 obtain ⟨hz0, hz1, hz2⟩ := hq
 obtain ⟨z', hz3, hz4⟩ := Option.map_eq_some_iff.1 hz0
 have hzz : z' = z := by rw [hi0] at hz; simp only [Option.bind_some] at hz; rw [hz3] at hz; exact Option.some.inj hz
 subst hzz
 obtain ⟨w', hr, hown, hg⟩ := run_make_full (P := P) w 0 t e i0 z' size O.slice hi0 hz3 hz1 kl kc n (by rw [hz2]; exact Nat.le_trans (Nat.mul_le_mul b2 hn) (by decide)) (by unfold maxLen; omega) (Nat.zero_le _)
 have hzl : zs.length = size := by rw [hzs] at hz4; simpa using hz4
 have em : (madeCells z'.cells (n * size)).toList = (List.replicate n zs).flatten := by
  rw [hzs]
  unfold madeCells
  have hfl : (List.replicate n zs).flatten = (List.replicate n ()).flatMap (fun _ => zs) := by rw [List.flatMap_def, List.map_replicate]
  rw [hfl]
  apply List.ext_getElem?
  intro i
  by_cases hi : i < n * size
  · have hpos := O.pos
    have hk : i / size < n := (Nat.div_lt_iff_lt_mul hpos).2 hi
    have hm := Nat.mod_lt i hpos
    have h1 := flat_at (fun _ : Unit => zs) size (List.replicate n ()) (fun _ _ => hzl) (i / size) () (by simp [hk]) (i % size) hm
    rw [Nat.mul_comm, Nat.div_add_mod] at h1
    rw [h1]
    simp [hi, hzl, hm]
  · have h1 := flat_length (fun _ : Unit => zs) size (List.replicate n ()) (fun _ _ => hzl)
    rw [List.length_replicate] at h1
    rw [List.getElem?_eq_none (by simp; omega), List.getElem?_eq_none (by omega)]
 rw [em] at hown
 refine ⟨w', w.heap.size, hr, H.new (S' := fun k => k = w.heap.size) (ARow e size _ n _) ⟨hown, fun k => by simp [Value.ownBlock, eq_comm]⟩ ?_⟩
 exact ((Step.refl (fun _ => False) w).grown hg (by intro k hk; cases hk)).to (fun k hk => .inr (Nat.le_of_eq hk.symm))
end
theorem wpList_allocZ {P : Program} {ops : Array Oper} {rest : List Oper} {o : Oper} {a : Act} {w : World} {Q : Exit -> Act -> World -> Prop} (hgd : o.guard = none) (ty : TypeId) (ho : o.op = .alloc ty) (z : Array Value) (hz : (P.info? ty).bind (·.zero) = some (.agg z))
 (h : wpList P ops Q rest (a.put o.dst (.pointer (some ⟨w.heap.size, 0, none⟩))) (w.alloc (.cells z ty))) : wpList P ops Q (o :: rest) a w := by
 refine wpList_plain hgd fun K hK => ?_
 obtain ⟨i, hi, hi2⟩ := Option.bind_eq_some_iff.1 hz
 unfold Oper.wp
 simp [execOp, ho, Instr.alloc, zeroValue, typeInfo, hi, hi2, Result.andThen]
 exact hK _ _ h
theorem wpList_built {P : Program} {ops : Array Oper} {rest : List Oper} {o : Oper} {a : Go.Act} {w : World} {Q : Exit -> Go.Act -> World -> Prop} (hgd : o.guard = none) (t : TypeId) (parts : Array (Nat × Operand)) (ho : o.op = .build t parts) (cells : Array Value)
 (hf : P.built t (parts.map fun (i, x) => (i, a.eval x)).toList = some cells) (h : wpList P ops Q rest (a.put o.dst (.agg cells)) w) : wpList P ops Q (o :: rest) a w := by
 refine wpList_plain hgd fun K hK => ?_
 have := run_build w t (parts.map fun (i, x) => (i, a.eval x)) cells hf
 unfold Oper.wp
 simp [execOp, ho, this, Result.andThen]
 exact hK _ _ h
end Go.Own
end
section
namespace Go.Proofs.YtahjjcmeocibbaaGreatDoor
open Go.RowKit Go.Own
namespace Tab
open Go.TabM
abbrev ptr (p : Nat) : Value := .pointer (some ⟨p, 0, none⟩)
abbrev errT (n : Nat) : Value := .int .i64 (n : Int)
abbrev sgC (s : Sg) : List Value := [.int .u8 (s.kind : Int), .int .u64 (s.seq : Int), .int .u32 (s.wear : Int)]
theorem sgC_len (l : List Sg) : ∀ a ∈ l, (sgC a).length = 3 := fun _ _ => rfl
abbrev RowG (v : Value) (rows : List Sg) : Asn := ARow 145 3 v rows.length (rows.flatMap sgC)
abbrev tabC (v : Value) (t : T) : List Value := [v, .int .u64 (t.next : Int)]
theorem flat_set (l : List Sg) (j k : Nat) (s : Sg) (u : Value) (hj : j < l.length) (hk : k < 3) (he : (sgC (at_ l j)).set k u = sgC s) : (l.flatMap sgC).set (j * 3 + k) u = (l.set j s).flatMap sgC := by
 induction l generalizing j with
 | nil => simp at hj
 | cons x l ih =>
  cases j with
  | zero =>
   rw [Nat.zero_mul, Nat.zero_add, List.flatMap_cons, List.set_append_left _ _ (by simpa using hk), List.set_cons_zero, List.flatMap_cons]
   congr 1
  | succ j =>
   rw [List.flatMap_cons, List.set_append_right _ _ (by show 3 <= _; omega), List.set_cons_succ, List.flatMap_cons]
   congr 1
   rw [<- ih j (by simpa using hj) he]
   congr 1
   show (j + 1) * 3 + k - 3 = _
   omega
section
variable {B : Nat} {w0 w : World} {Ps : List Asn} {q : Nat} {v : Value} {t : T}
structure At (w : World) (g j : Nat) (s : Sg) : Prop where
 c0 : w.cell? ⟨g, j * 3, none⟩ = some (.int .u8 (s.kind : Int))
 c1 : w.cell? ⟨g, j * 3 + 1, none⟩ = some (.int .u64 (s.seq : Int))
 c2 : w.cell? ⟨g, j * 3 + 2, none⟩ = some (.int .u32 (s.wear : Int))
theorem rowG_at {rows : List Sg} (H : Own.St B w0 w Ps) (i : Nat) (hi : Ps[i]? = some (RowG v rows)) (j : Nat) (hj : j < rows.length) :
 ∃ g c, v = .slice (some ⟨g, 0, none⟩) rows.length c /\ At w g j (at_ rows j) := by
 obtain ⟨ao, c, rfl⟩ := H.rowForm i hi
 have f := fun k hk => flat_at sgC 3 rows (sgC_len rows) j (at_ rows j) (at_get hj) k hk
 obtain ⟨g, rfl, ⟨u0, h0, c0⟩, _, _⟩ := H.rowAt i hi (j * 3 + 0) (by omega)
 obtain ⟨g1, e1, ⟨u1, h1, c1⟩, _, _⟩ := H.rowAt i hi (j * 3 + 1) (by omega)
 cases e1
 obtain ⟨g2, e2, ⟨u2, h2, c2⟩, _, _⟩ := H.rowAt i hi (j * 3 + 2) (by omega)
 cases e2
 rw [f 0 (by omega)] at h0; cases h0
 rw [f 1 (by omega)] at h1; cases h1
 rw [f 2 (by omega)] at h2; cases h2
 exact ⟨g, c, rfl, c0, c1, c2⟩
theorem rowG_set {rows : List Sg} {g c : Nat} (H : Own.St B w0 w Ps) (i : Nat) (hi : Ps[i]? = some (RowG (.slice (some ⟨g, 0, none⟩) rows.length c) rows)) (j k : Nat) (s : Sg) (u : Value) (hj : j < rows.length) (hk : k < 3) (he : (sgC (at_ rows j)).set k u = sgC s) :
 w.frozen? ⟨g, j * 3 + k, none⟩ = false /\ Own.St B w0 (w.setCell ⟨g, j * 3 + k, none⟩ u) (Ps.set i (RowG (.slice (some ⟨g, 0, none⟩) rows.length c) (rows.set j s))) := by
 obtain ⟨g1, e1, _, fz, put⟩ := H.rowAt i hi (j * 3 + k) (by omega)
 cases e1
 refine ⟨fz, ?_⟩
 have h := put u
 rw [flat_set rows j k s u hj hk he] at h
 rw [show RowG (.slice (some ⟨g, 0, none⟩) rows.length c) (rows.set j s) = ARow 145 3 (.slice (some ⟨g, 0, none⟩) rows.length c) rows.length ((rows.set j s).flatMap sgC) by
  show ARow _ 3 _ (rows.set j s).length _ = _
  rw [List.length_set]]
 exact h
end
def curV (t : T) : Value := .tuple #[.int .i64 (((cur t).getD 0 : Nat) : Int), .bool (cur t).isSome]
section
variable {B : Nat} {w0 w : World} {Ps : List Asn} {q : Nat} {v : Value} {t : T} {N : Nat}
end
end Tab
end Go.Proofs.YtahjjcmeocibbaaGreatDoor
end
section
namespace Go.Proofs.YtahjjcmeocibbaaGreatDoor
open Go.RowKit Go.Own
namespace Tab
open Go.TabM
theorem manySeg : Many Tryz.prog 83 145 3 24 := ⟨Tryz.underlying83, by kernel_rfl, by decide⟩
theorem zero_seg : (Tryz.prog.info? 145).bind (·.zero) = some (.agg (sgC zS).toArray) := by kernel_rfl
theorem flat_fresh (n : Nat) : (List.replicate n (sgC zS)).flatten = (List.replicate n zS).flatMap sgC := by rw [List.flatMap_def, List.map_replicate]
section
variable {B : Nat} {w0 w : World} {Ps : List Asn} {q : Nat} {v : Value} {t : T} {N : Nat}
end
end Tab
end Go.Proofs.YtahjjcmeocibbaaGreatDoor
end
section
namespace Go.Own
open Go.RowKit
theorem results_cell_two {P : Program} {fn : Func} {p q : Tmp} {ty : TypeId} (h : fn.results = #[.cell p ty, .tmp q]) (tmps : Array Value) (w : World) (g : Nat) (t : TypeId) (cs : Array Value) (fr : Nat × Nat) (d : TypeDesc) (v : Value)
 (hp : tmps.getD p undef = .pointer (some ⟨g, 0, none⟩)) (hq : tmps.getD q undef = v) (hg : w.heap[g]? = some (.cells cs t fr))
 (hu : P.underlying ty = some d) (hd : (match d with | .struct _ | .array _ _ => true | _ => false) = true) (hi : (P.info? ty).map (·.size) = some cs.size) :
 (results fn tmps).run P w = .ok (.tuple #[.agg cs, v]) w := by
 have hp' : tmps[p]?.getD undef = .pointer (some ⟨g, 0, none⟩) := by simpa using hp
 have hq' : tmps[q]?.getD undef = v := by simpa using hq
 simp [results, h, hp', hq', asAddr, run_loadVar_row w g t ty cs fr d hg hu hd hi]
theorem results_four {P : Program} {fn : Func} {a b c d : Tmp} (h : fn.results = #[.tmp a, .tmp b, .tmp c, .tmp d]) (tmps : Array Value) (w : World) {va vb vc vd : Value} (ha : tmps.getD a undef = va) (hb : tmps.getD b undef = vb) (hc : tmps.getD c undef = vc) (hd : tmps.getD d undef = vd) :
 (results fn tmps).run P w = .ok (.tuple #[va, vb, vc, vd]) w := by
 have ha' : tmps[a]?.getD undef = va := by simpa using ha
 have hb' : tmps[b]?.getD undef = vb := by simpa using hb
 have hc' : tmps[c]?.getD undef = vc := by simpa using hc
 have hd' : tmps[d]?.getD undef = vd := by simpa using hd
 simp [results, h, ha', hb', hc', hd']
end Go.Own
end
section
namespace Go.Proofs.YtahjjcmeocibbaaGreatDoor
open Go.RowKit Go.Own
namespace Tab
open Go.TabM
theorem idx_seg {o : Oper} {x y : Tmp} (ho : o.op = .indexAddr 83 (.tmp x) (.tmp y)) {g n c k : Nat} (hk : k < n) (ρ : Operand -> Value) (w : World) (h0 : ρ (.tmp x) = .slice (some ⟨g, 0, none⟩) n c) (h1 : ρ (.tmp y) = .int .i64 (k : Int)) : (execOp ρ o).run Tryz.prog w = .ok (.value (.pointer (some ⟨g, k * 3, none⟩))) w := by
 have hk' : (k : Int) < (n : Int) := by omega
 simp [execOp, ho, h0, h1, go_sem, hk', add_of]
theorem sat_lt {o : Oper} {x : Tmp} (ho : o.op = .binOp .lss 49 (.tmp x) (.const (.int .u32 4294967295)) 49) {k : Nat} (hk : k <= 100000) (ρ : Operand -> Value) (w : World) (h0 : ρ (.tmp x) = .int .u32 (k : Int)) (h1 : ρ (.const (.int .u32 4294967295)) = .int .u32 4294967295) : (execOp ρ o).run Tryz.prog w = .ok (.value (.bool true)) w := by
 have hk' : (k : Int) < 4294967295 := by omega
 simp [execOp, ho, h0, h1, go_sem, hk']
def opV (x : Nat × Nat × Nat) : Value := .tuple #[.int .i64 (x.1 : Int), .int .u64 (x.2.1 : Int), errT x.2.2]
section
variable {B : Nat} {w0 w : World} {Ps : List Asn} {q : Nat} {v : Value} {t : T} {N : Nat}
end
end Tab
end Go.Proofs.YtahjjcmeocibbaaGreatDoor
end
section
namespace Go.Proofs.YtahjjcmeocibbaaGreatDoor
open Go.RowKit Go.Own
theorem Tryz.infoU8 : (Tryz.prog.info? 5).map (fun i => (i.zero, i.size, i.bytes)) = some (some (.int .u8 0), 1, 1) := by kernel_rfl
namespace Cod
def le (n : Nat) : Nat -> List UInt8
 | 0 => []
 | k + 1 => le n k ++ [UInt8.ofNat (n / 2 ^ (8 * k))]
theorem le_len (n k : Nat) : (le n k).length = k := by induction k <;> simp [le, *]
theorem le_byte (n k : Nat) : IntKind.u8.wrap ((n : Int) / 2 ^ (8 * (k : Int)).toNat) = ((UInt8.ofNat (n / 2 ^ (8 * k))).toNat : Int) := by
 have e : (8 * (k : Int)).toNat = 8 * k := by omega
 rw [e, IntKind.wrap_u8]
 simp
structure WS where
 room : Int
 xs : List UInt8
 err : Int
def WS.lay (s : WS) (bs : List UInt8) : WS := if s.err ≠ 0 then s else if s.room - s.xs.length < bs.length then { s with err := 4 } else { s with xs := s.xs ++ bs }
def WS.num (s : WS) (n : Nat) (many : Int) : WS := if s.err ≠ 0 then s else if many < 0 \/ 8 < many then { s with err := 1 } else s.lay (le n many.toNat)
def WS.blob (s : WS) (bs : List UInt8) : WS := if s.err ≠ 0 then s else if 65535 < bs.length then { s with err := 4 } else s.lay (le bs.length 2 ++ bs)
def Wr (w : World) (S : Nat -> Prop) (p : Nat) (s : WS) : Prop :=
 ∃ v T, w.heap[p]? = some (.cells #[.int .i64 s.room, v, .int .i64 s.err] 161 (0, 0)) /\ Row w 5 1 T v s.xs.length (s.xs.map byteV) /\ ¬ T p /\ (∀ k, S k ↔ (k = p \/ T k)) /\ 0 <= s.room /\ s.room <= 9223372036854775807
def WrTo (S : Nat -> Prop) (p : Nat) (s : WS) (w w' : World) : Prop := ∃ S', Wr w' S' p s /\ Step S S' w w'
theorem Wr.keep {w w' : World} {S T U : Nat -> Prop} {p : Nat} {s : WS} (h : Wr w S p s) (g : Step T U w w') (hd : Dis S T) : Wr w' S p s := by
 obtain ⟨v, R, hb, hr, hR, hS, h0, h1⟩ := h
 exact ⟨v, R, (g.block p (lt_of_block hb) (hd p ((hS p).2 (.inl rfl)))).trans hb, hr.step g (fun k hk => hd k ((hS k).2 (.inr hk))), hR, hS, h0, h1⟩
theorem Wr.lt {w : World} {S : Nat -> Prop} {p : Nat} {s : WS} (h : Wr w S p s) : ∀ k, S k -> k < w.heap.size := by
 obtain ⟨v, R, hb, hr, hR, hS, h0, h1⟩ := h
 intro k hk
 rcases (hS k).1 hk with rfl | h
 · exact lt_of_block hb
 · exact hr.lt k h
theorem Wr.drewN {w : World} {S : Nat -> Prop} {p : Nat} {s : WS} (h : Wr w S p s) (n : Nat) : WrTo S p s w (w.drewN n) :=
 ⟨S, h.keep (T := fun _ => False) (U := fun _ => False) ((Step.refl _ _).drewN n) (fun _ _ h => h), (Step.refl _ _).drewN n⟩
theorem Wr.fault {w : World} {S : Nat -> Prop} {p : Nat} {s : WS} (h : Wr w S p s) (n : Nat) (x : Int) : WrTo S p { s with err := x } w ((w.drewN n).setCell ⟨p, 2, none⟩ (.int .i64 x)) := by
 obtain ⟨v, R, hb, hr, hR, hS, h0, h1⟩ := h
 have g : Step (fun k => k = p) (fun k => k = p) w ((w.drewN n).setCell ⟨p, 2, none⟩ (.int .i64 x)) := ((Step.refl (fun k => k = p) w).drewN n).setCell (a := ⟨p, 2, none⟩) (Or.inl rfl) _
 refine ⟨S, ⟨v, R, ?_, hr.step g (fun k h e => hR (e ▸ h)), hR, hS, h0, h1⟩, ((Step.refl S w).drewN n).setCell (a := ⟨p, 2, none⟩) (Or.inl ((hS p).2 (.inl rfl))) _⟩
 have e : (w.drewN n).heap[p]? = some (.cells #[.int .i64 s.room, v, .int .i64 s.err] 161 (0, 0)) := hb
 rw [block_setCell e]
 rfl
theorem Wr.push {wr w0 w1 : World} {S T T' : Nat -> Prop} {p : Nat} {s : WS} {v v' : Value} {c : UInt8}
 (hb : wr.heap[p]? = some (.cells #[.int .i64 s.room, v, .int .i64 s.err] 161 (0, 0))) (hT : ¬ T p) (hS : ∀ k, S k ↔ (k = p \/ T k)) (hr0 : 0 <= s.room) (hr1 : s.room <= 9223372036854775807)
 (h0 : Step T T wr w0) (hs : Step T T' w0 w1) (hr : Row w1 5 1 T' v' (s.xs.length + 1) (s.xs.map byteV ++ [byteV c])) :
 WrTo S p { s with xs := s.xs ++ [c] } wr (w1.setCell ⟨p, 1, none⟩ v') := by
 have hp := lt_of_block hb
 have h1 := h0.trans hs
 have hT' : ¬ T' p := fun h => (h1.new p h).elim hT (fun h => by omega)
 have hb1 : w1.heap[p]? = _ := (h1.block p hp hT).trans hb
 refine ⟨fun k => k = p \/ T' k, ⟨v', T', by rw [block_setCell hb1]; rfl, ?_, hT', fun _ => Iff.rfl, hr0, hr1⟩, ?_⟩
 · have e : (s.xs ++ [c]).length = s.xs.length + 1 := by simp
   show Row _ _ _ _ _ (s.xs ++ [c]).length ((s.xs ++ [c]).map byteV)
   rw [e, List.map_append]
   exact hr.step (S := fun k => k = p) (U := fun k => k = p) ((Step.refl (fun k => k = p) w1).setCell (a := ⟨p, 1, none⟩) (Or.inl rfl) _) (fun k h e => hT' (e ▸ h))
 · have h2 : Step S (fun k => k = p \/ T' k) wr w1 := ⟨h1.os, h1.tape, h1.output, h1.size, fun k hk hs => h1.block k hk (fun ht => hs ((hS k).2 (.inr ht))), fun k hk => hk.elim (fun e => .inl ((hS k).2 (.inl e))) (fun ht => (h1.new k ht).imp_left fun h => (hS k).2 (.inr h))⟩
   exact h2.setCell (Or.inl ((hS p).2 (.inl rfl))) _
def WDone (S : Nat -> Prop) (p : Nat) (s : WS) (w : World) (e : Ending) (w' : World) : Prop := e = .returned (.tuple #[]) /\ WrTo S p s w w'
set_option maxHeartbeats 400000 in
theorem putNum_any (S : Nat -> Prop) (p : Nat) (s : WS) (n many : Nat) (w : World)
 (hW : Wr w S p s) (hm : many <= 8) (hxs : s.xs.length <= 100000000) :
 Calls Tryz.prog 87 #[.pointer (some ⟨p, 0, none⟩), .int .u64 n, .int .i64 many] w (WDone S p { s with xs := s.xs ++ le n many } w) := by
 obtain ⟨i0, hi, hz0, hz1, hz2⟩ := info_parts Tryz.infoU8
 go_enter Tryz.func87, Tryz.ntmps87
 go_wp2
 go_loopw [6, 8] (fun _ i wr => ∃ k : Nat, k <= many /\ i = .int .i64 k /\ WrTo S p { s with xs := s.xs ++ le n k } w wr) (fun _ i _ => many - (intOf i).toNat)
 case atStart => exact ⟨0, Nat.zero_le _, rfl, S, by simpa [le] using hW, Step.refl _ _⟩
 case round =>
  obtain ⟨k, hk, rfl, S', ⟨v, T, hb, hrow, hT, hS, hr0, hr1⟩, hst⟩ := hrel
  have hlen : (s.xs ++ le n k).length <= 100000008 := by rw [List.length_append, le_len]; omega
  obtain ⟨ao, cap, rfl, hc1, hc2, -⟩ := hrow.form
  have h1 := cell_of_block (i := 1) hb rfl
  have hp := lt_of_block hb
  by_cases hlt : k < many
  · have hk8 : IntKind.i64.wrap (8 * (k : Int)) = 8 * (k : Int) := IntWalk.i64_in _ (by omega)
    have hk0 : (0 : Int) <= 8 * (k : Int) := by omega
    obtain ⟨c, hc⟩ : ∃ c, c = UInt8.ofNat (n / 2 ^ (8 * k)) := ⟨_, rfl⟩
    have hB : IntKind.u8.wrap ((n : Int) / 2 ^ (8 * (k : Int)).toNat) = (c.toNat : Int) := by rw [hc]; exact le_byte n k
    have HC := Lib.hid hc
    clear hc
    generalize hys : s.xs ++ le n k = ys at *
    have HY := Lib.hid hys
    clear hys
    simp only at hb hrow hr0 hr1 h1 hlen hc1
    go_wp2
    go_region_law (refine step_append_row rfl (.tmp 15) (.tmp 21) 37 rfl 5 i0 (.int .u8 0) 1 1 Tryz.underlying37 hi hz0 hz1 hz2 rfl (by decide) _ _ _ (by simp [Act.eval]) (hrow.alloc _).drew (some ⟨wr.heap.size, 0, none⟩) 1 1 [byteV c] (by simp [Act.eval]) (by intro h; cases h) rfl (cell_new_byte _ _ _) (byteV_one [_]) (by unfold maxLen; omega) (by omega) ?_; intro v' w1 T' hr' hs'; obtain ⟨ao', cap', rfl, -⟩ := hr'.form; have hb1 := ((((Step.refl T wr).alloc _).drew).trans hs').block p (lt_of_block hb) hT |>.trans hb; have c1 := cell_of_block (i := 1) hb1 rfl; have f1 := frozen_of_block (i := 1) hb1)
    all_goals
     have r := Wr.push (s := { s with xs := ys }) hb hT hS hr0 hr1 (((Step.refl T wr).alloc _).drew) hs' hr'
     clear hb1 c1 f1
     go_wp2
     go_roundw
     case rel =>
      obtain ⟨S'', r1, r2⟩ := r
      exact ⟨k + 1, by omega, by go_num, S'', by rw [le, <- List.append_assoc, HY.out, <- HC.out]; exact r1, hst.trans r2⟩
     case measure => simp [intOf]; omega
  · have hkm : k = many := by omega
    have HK := Lib.hid hkm
    clear hkm
    go_wp2
    go_end0
    exact ⟨rfl, S', by rw [<- HK.out]; exact ⟨_, T, hb, hrow, hT, hS, hr0, hr1⟩, hst⟩
set_option maxHeartbeats 400000 in
theorem putBytes_any (S D : Nat -> Prop) (p : Nat) (s : WS) (ao : Option Addr) (bs : List UInt8) (cap : Nat) (w : World)
 (hW : Wr w S p s) (hV : View w D ao bs) (hD : Dis D S) (hbs : bs.length <= 100000000) (hxs : s.xs.length <= 100000000) :
 Calls Tryz.prog 88 #[.pointer (some ⟨p, 0, none⟩), .slice ao bs.length cap] w (WDone S p { s with xs := s.xs ++ bs } w) := by
 obtain ⟨i0, hi, hz0, hz1, hz2⟩ := info_parts Tryz.infoU8
 obtain ⟨len, hl⟩ : ∃ len, len = bs.length := ⟨_, rfl⟩
 rw [<- hl]
 rw [<- hl] at hbs
 have HL := Lib.hid hl
 clear hl
 go_enter Tryz.func88, Tryz.ntmps88
 go_wp2
 go_loopw [4, 7] (fun _ i wr => ∃ k : Nat, k <= len /\ i = .int .i64 k /\ WrTo S p { s with xs := s.xs ++ bs.take k } w wr) (fun _ i _ => len - (intOf i).toNat)
 case atStart => exact ⟨0, Nat.zero_le _, rfl, S, by simpa using hW, Step.refl _ _⟩
 case round =>
  obtain ⟨k, hk, rfl, S', ⟨v, T, hb, hrow, hT, hS, hr0, hr1⟩, hst⟩ := hrel
  have hlen : (s.xs ++ bs.take k).length <= 200000000 := by have := HL.out; rw [List.length_append, List.length_take]; omega
  obtain ⟨ao', cap', rfl, hc1, hc2, -⟩ := hrow.form
  have h1 := cell_of_block (i := 1) hb rfl
  have hp := lt_of_block hb
  by_cases hlt : k < len
  · obtain ⟨b, o, rfl, hbD, hbw, hc⟩ : ∃ b o, ao = some ⟨b, o, none⟩ /\ D b /\ b < w.heap.size /\ ∀ j, j < bs.length -> w.cell? ⟨b, o + j, none⟩ = some (.int .u8 ((bs.getD j 0).toNat : Int)) := by
     rcases hV with h | h
     · have := HL.out; rw [h] at this; simp at this; omega
     · exact h
    obtain ⟨c, hcd⟩ : ∃ c, c = bs.getD k 0 := ⟨_, rfl⟩
    have hcx : wr.cell? ⟨b, o + k, none⟩ = some (.int .u8 (c.toNat : Int)) := by
     rw [hcd]; exact (World.cell?_of_block (w := w) (hst.block b hbw (hD b hbD))).trans (hc k (by rw [<- HL.out]; exact hlt))
    have hbw' : b < wr.heap.size := Nat.lt_of_lt_of_le hbw hst.size
    have hsn : bs.take (k + 1) = bs.take k ++ [c] := by
     rw [List.take_succ_eq_append_getElem (by rw [<- HL.out]; exact hlt), hcd]
     simp [show k < bs.length by rw [<- HL.out]; exact hlt]
    have HC := Lib.hid hsn
    clear hcd hsn hc hbD hbw hV
    generalize hys : s.xs ++ bs.take k = ys at *
    have HY := Lib.hid hys
    clear hys
    simp only at hb hrow hr0 hr1 h1 hlen hc1
    go_wp2
    go_region_law (refine step_append_row rfl (.tmp 14) (.tmp 19) 37 rfl 5 i0 (.int .u8 0) 1 1 Tryz.underlying37 hi hz0 hz1 hz2 rfl (by decide) _ _ _ (by simp [Act.eval]) (hrow.alloc _).drew (some ⟨wr.heap.size, 0, none⟩) 1 1 [byteV c] (by simp [Act.eval]) (by intro h; cases h) rfl (cell_new_byte _ _ _) (byteV_one [_]) (by unfold maxLen; omega) (by omega) ?_; intro v' w1 T' hr' hs'; obtain ⟨ao'', cap'', rfl, -⟩ := hr'.form; have hb1 := ((((Step.refl T wr).alloc _).drew).trans hs').block p (lt_of_block hb) hT |>.trans hb; have c1 := cell_of_block (i := 1) hb1 rfl; have f1 := frozen_of_block (i := 1) hb1)
    all_goals
     have r := Wr.push (s := { s with xs := ys }) hb hT hS hr0 hr1 (((Step.refl T wr).alloc _).drew) hs' hr'
     clear hb1 c1 f1
     go_wp2
     go_roundw
     case rel =>
      obtain ⟨S'', r1, r2⟩ := r
      exact ⟨k + 1, by omega, by go_num, S'', by rw [HC.out, <- List.append_assoc, HY.out]; exact r1, hst.trans r2⟩
     case measure => simp [intOf]; omega
  · have hkm : bs.take k = bs := List.take_of_length_le (by rw [<- HL.out]; omega)
    have HK := Lib.hid hkm
    clear hkm
    have hkl : (k : Int) = len := by omega
    have HKL := Lib.hid hkl
    clear hkl
    go_wp2
    go_end0
    exact ⟨rfl, S', by rw [<- HK.out]; exact ⟨_, T, hb, hrow, hT, hS, hr0, hr1⟩, hst⟩
end Cod
end Go.Proofs.YtahjjcmeocibbaaGreatDoor
end
section
namespace Go.Proofs.YtahjjcmeocibbaaGreatDoor
open Go.RowKit Go.Own
namespace Cod
set_option maxHeartbeats 400000 in
theorem fits_yes (S : Nat -> Prop) (p : Nat) (s : WS) (size : Int) (w : World) (hW : Wr w S p s) (hxs : s.xs.length <= 200000000) (_h0 : 0 <= size) (hs : size <= s.room - s.xs.length) :
 Calls Tryz.prog 86 #[.pointer (some ⟨p, 0, none⟩), .int .i64 size] w fun e w' => e = .returned (.bool true) /\ WrTo S p s w w' := by
 have hW0 := Lib.hid hW
 obtain ⟨v, T, hb, hrow, hT, hS, hr0, hr1⟩ := hW
 obtain ⟨ao, cap, rfl, hc1, hc2, -⟩ := hrow.form
 have h0 := cell_of_block (i := 0) hb rfl
 have h1 := cell_of_block (i := 1) hb rfl
 go_enter Tryz.func86, Tryz.ntmps86
 go_wp2
 go_quiet (fail)
 go_wp2
 go_ret
 exact ⟨rfl, hW0.out.drewN _⟩
set_option maxHeartbeats 400000 in
theorem fits_no (S : Nat -> Prop) (p : Nat) (s : WS) (size : Int) (w : World) (hW : Wr w S p s) (hxs : s.xs.length <= 200000000) (_h0 : 0 <= size) (hs : s.room - s.xs.length < size) :
 Calls Tryz.prog 86 #[.pointer (some ⟨p, 0, none⟩), .int .i64 size] w fun e w' => e = .returned (.bool false) /\ WrTo S p { s with err := 4 } w w' := by
 have hW0 := Lib.hid hW
 obtain ⟨v, T, hb, hrow, hT, hS, hr0, hr1⟩ := hW
 obtain ⟨ao, cap, rfl, hc1, hc2, -⟩ := hrow.form
 have h0 := cell_of_block (i := 0) hb rfl
 have h1 := cell_of_block (i := 1) hb rfl
 have h2 := cell_of_block (i := 2) hb rfl
 have f2 := frozen_of_block (i := 2) hb
 go_enter Tryz.func86, Tryz.ntmps86
 go_wp2
 go_quiet (fail)
 go_wp2
 go_ret
 exact ⟨rfl, hW0.out.fault _ 4⟩
def CloneDone (bs : List UInt8) (w : World) (e : Ending) (w' : World) : Prop :=
 ∃ ao cap T, e = .returned (.slice ao bs.length cap) /\ Row w' 5 1 T (.slice ao bs.length cap) bs.length (bs.map byteV) /\ Step (fun _ => False) T w w'
theorem view_cells {w : World} {D : Nat -> Prop} {ao : Option Addr} {bs : List UInt8} (h : View w D ao bs) : ∀ a, ao = some a -> ∀ j u, (bs.map byteV)[j]? = some u -> w.cell? (a.add j) = some u := by
 intro a ha j u hu
 have hj := (List.getElem?_eq_some_iff.1 hu).1
 rw [List.length_map] at hj
 rcases h with rfl | ⟨b, o, hab, _, _, hc⟩
 · simp at hj
 · rw [ha] at hab
   cases hab
   have e : (⟨b, o, none⟩ : Addr).add j = ⟨b, o + j, none⟩ := by unfold Addr.add; split <;> simp_all
   rw [e, hc j hj]
   rw [<- hu]
   simp [byteV, hj]
set_option maxHeartbeats 400000 in
theorem clone_any (D : Nat -> Prop) (ao : Option Addr) (bs : List UInt8) (cap : Nat) (w : World) (hV : View w D ao bs) (hbs : bs.length <= 1000000000) :
 Calls Tryz.prog 47 #[.slice ao bs.length cap] w (CloneDone bs w) := by
 obtain ⟨i0, hi, hz0, hz1, hz2⟩ := info_parts Tryz.infoU8
 cases ao with
 | none =>
  have hb : bs = [] := by
   rcases hV with h | ⟨b, o, h, _⟩
   · exact h
   · cases h
  subst hb
  have heq := fun wx => Lib.run_eql_slice_nil (P := Tryz.prog) wx 37 5 none 0 cap 0 0 Tryz.underlying37
  show Calls Tryz.prog 47 #[.slice none 0 cap] w _
  go_enter Tryz.func47, Tryz.ntmps47
  go_wp2
  go_ret
  exact ⟨none, 0, _, rfl, Row.nil _ _ _, Step.refl _ _⟩
 | some a =>
  have hc := view_cells hV
  have HC := Lib.hid hc
  clear hc hV
  obtain ⟨n, hn⟩ : ∃ n, n = bs.length := ⟨_, rfl⟩
  rw [<- hn] at hbs ⊢
  have heq := fun wx => Lib.run_eql_slice_nil (P := Tryz.prog) wx 37 5 (some a) n cap 0 0 Tryz.underlying37
  have HN := Lib.hid hn
  clear hn
  go_enter Tryz.func47, Tryz.ntmps47
  go_wp2_with (at_builtin; go_loud (refine wpList_append_row rfl (.tmp 5) (.tmp 6) 37 rfl 5 i0 (.int .u8 0) 1 1 Tryz.underlying37 hi hz0 hz1 hz2 rfl (by decide) (.slice (some ⟨w.heap.size, 0, none⟩) 0 0) 0 [] rfl (Row.made w #[] 5 1 0 (Nat.zero_le _) rfl) (some a) n cap (bs.map byteV) rfl (by intro h; cases h) ?hl ?hnews (byteV_one _) ?b1 ?b2 ?_))
  case hl => rw [List.length_map, Nat.mul_one]; exact HN.out.symm
  case hnews =>
   intro a' ha j u hu
   have := HC.out a' ha j u hu
   exact cell_alloc this _
  case b1 => unfold maxLen; omega
  case b2 => omega
  intro v' w' T' hr' hs'
  obtain ⟨ao', cap', rfl, -⟩ := hr'.form
  go_wp2
  go_ret
  simp only at hr' ⊢
  have e := HN.out
  subst e
  exact ⟨ao', cap', T', rfl, hr', (((Step.refl (fun _ => False) w).alloc _).to (fun k hk => Or.inr (Nat.le_of_eq hk.symm))).trans hs'⟩
end Cod
end Go.Proofs.YtahjjcmeocibbaaGreatDoor
end
section
namespace Go.Proofs.YtahjjcmeocibbaaGreatDoor
open Go.RowKit Go.Own
namespace Cod
def NewWDone (room : Int) (w : World) (e : Ending) (w' : World) : Prop :=
 ∃ p S, e = .returned (.pointer (some ⟨p, 0, none⟩)) /\ Wr w' S p ⟨max room 0, [], 0⟩ /\ Step (fun _ => False) S w w'
theorem newWriter_any (room : Int) (w : World) (h1 : room <= 9223372036854775807) :
 Calls Tryz.prog 49 #[.int .i64 room] w (NewWDone room w) := by
 have key : ∀ r : Int, max room 0 = r -> 0 <= r -> r <= 9223372036854775807 -> NewWDone room w (.returned (.pointer (some ⟨w.heap.size, 0, none⟩))) (w.alloc (.cells #[.int .i64 r, .slice none 0 0, .int .i64 0] 161)) := by
  intro r hr h0 hm
  refine ⟨_, fun k => k = w.heap.size, rfl, ?_, ((Step.refl (fun _ => False) w).alloc _).to (fun k hk => Or.inr (Nat.le_of_eq hk.symm))⟩
  rw [hr]
  exact ⟨.slice none 0 0, fun _ => False, heap_alloc_new w _, Row.nil _ _ _, fun h => h, fun k => by simp, h0, hm⟩
 have K := Lib.hid key
 clear key
 go_enter Tryz.func49, Tryz.ntmps49
 go_wp2
 all_goals go_ret
 all_goals first
  | exact K.out 0 (by omega) (by omega) (by omega)
  | exact K.out room (by omega) (by omega) h1
  | (refine K.out _ ?_ ?_ ?_ <;> first | omega | (split <;> omega))
set_option maxHeartbeats 400000 in
theorem num_any (S : Nat -> Prop) (p : Nat) (s : WS) (n : Nat) (many : Int) (w : World) (hW : Wr w S p s) (hxs : s.xs.length <= 100000000) :
 Calls Tryz.prog 50 #[.pointer (some ⟨p, 0, none⟩), .int .u64 n, .int .i64 many] w (WDone S p (s.num n many) w) := by
 have hW0 := Lib.hid hW
 obtain ⟨v, T, hb, hrow, hT, hS, hr0, hr1⟩ := hW
 have h2 := cell_of_block (i := 2) hb rfl
 have f2 := frozen_of_block (i := 2) hb
 obtain ⟨room, xs, err⟩ := s
 simp only at h2 hr0 hr1 hxs
 clear hb hrow hT hS
 by_cases he : err = 0
 · subst he
   by_cases h0 : many < 0
   · have hfin : Hid (WS.num ⟨room, xs, 0⟩ n many = ⟨room, xs, 1⟩) := by simp [Hid, WS.num, h0]
     go_enter Tryz.func50, Tryz.ntmps50
     go_wp2
     go_end0
     rw [hfin.out]
     exact ⟨rfl, hW0.out.fault 0 1⟩
   · by_cases h8 : 8 < many
     · have hfin : Hid (WS.num ⟨room, xs, 0⟩ n many = ⟨room, xs, 1⟩) := by simp [Hid, WS.num, h8]
       go_enter Tryz.func50, Tryz.ntmps50
       go_wp2
       go_end0
       rw [hfin.out]
       exact ⟨rfl, hW0.out.fault 0 1⟩
     · obtain ⟨k, rfl⟩ := Int.eq_ofNat_of_zero_le (show 0 <= many by omega)
       by_cases hf : (k : Int) <= room - xs.length
       · have hfin : Hid (WS.num ⟨room, xs, 0⟩ n k = ⟨room, xs ++ le n k, 0⟩) := by
          simp only [Hid, WS.num, WS.lay]
          rw [if_neg (by simp), if_neg (by omega), if_neg (by simp), if_neg (by rw [Int.toNat_natCast, le_len]; omega), Int.toNat_natCast]
         go_enter Tryz.func50, Tryz.ntmps50
         go_wp2_with (fail)
         refine (fits_yes S p ⟨room, xs, 0⟩ k w hW0.out (by simp; omega) (by omega) hf).mono ?_
         rintro e w1 ⟨rfl, S1, hW1, hs1⟩
         have HW1 := Lib.hid hW1
         clear hW1
         go_wp2_with (fail)
         refine (putNum_any S1 p ⟨room, xs, 0⟩ n k w1 HW1.out (by omega) hxs).mono ?_
         rintro e w2 ⟨rfl, S2, hW2, hs2⟩
         have HW2 := Lib.hid hW2
         clear hW2
         go_wp2_with (fail)
         go_end0
         rw [hfin.out]
         exact ⟨rfl, S2, HW2.out, hs1.trans hs2⟩
       · have hfin : Hid (WS.num ⟨room, xs, 0⟩ n k = ⟨room, xs, 4⟩) := by
          simp only [Hid, WS.num, WS.lay]
          rw [if_neg (by simp), if_neg (by omega), if_neg (by simp), if_pos (by rw [Int.toNat_natCast, le_len]; omega)]
         go_enter Tryz.func50, Tryz.ntmps50
         go_wp2_with (fail)
         refine (fits_no S p ⟨room, xs, 0⟩ k w hW0.out (by simp; omega) (by omega) (by show room - xs.length < _; omega)).mono ?_
         rintro e w1 ⟨rfl, S1, hW1, hs1⟩
         have HW1 := Lib.hid hW1
         clear hW1
         go_wp2_with (fail)
         go_end0
         rw [hfin.out]
         exact ⟨rfl, S1, HW1.out, hs1⟩
 · have hfin : Hid (WS.num ⟨room, xs, err⟩ n many = ⟨room, xs, err⟩) := by simp [Hid, WS.num, he]
   have he' : (err == 0) = false := by simp [he]
   go_enter Tryz.func50, Tryz.ntmps50
   go_wp2
   go_end0
   rw [hfin.out]
   exact ⟨rfl, hW0.out.drewN 0⟩
set_option maxHeartbeats 400000 in
theorem raw_any (S D : Nat -> Prop) (p : Nat) (s : WS) (ao : Option Addr) (bs : List UInt8) (cap : Nat) (w : World) (hW : Wr w S p s) (hV : View w D ao bs) (hD : Dis D S) (hbs : bs.length <= 100000000) (hxs : s.xs.length <= 100000000) :
 Calls Tryz.prog 52 #[.pointer (some ⟨p, 0, none⟩), .slice ao bs.length cap] w (WDone S p (s.lay bs) w) := by
 have hW0 := Lib.hid hW
 have hV0 := Lib.hid hV
 obtain ⟨v, T, hb, hrow, hT, hS, hr0, hr1⟩ := hW
 have h2 := cell_of_block (i := 2) hb rfl
 obtain ⟨room, xs, err⟩ := s
 simp only at h2 hr0 hr1 hxs
 clear hb hrow hT hV
 by_cases he : err = 0
 · subst he
   by_cases hf : (bs.length : Int) <= room - xs.length
   · have hfin : Hid (WS.lay ⟨room, xs, 0⟩ bs = ⟨room, xs ++ bs, 0⟩) := by
      simp only [Hid, WS.lay]
      rw [if_neg (by simp), if_neg (by omega)]
     go_enter Tryz.func52, Tryz.ntmps52
     go_wp2_with (fail)
     refine (fits_yes S p ⟨room, xs, 0⟩ bs.length w hW0.out (by simp; omega) (by omega) hf).mono ?_
     rintro e w1 ⟨rfl, S1, hW1, hs1⟩
     have HW1 := Lib.hid hW1
     clear hW1
     go_wp2_with (fail)
     refine (putBytes_any S1 _ p ⟨room, xs, 0⟩ ao bs cap w1 HW1.out (hV0.out.live.step hs1 (fun k hk => hD k hk.1)) (hD.step hs1) hbs hxs).mono ?_
     rintro e w2 ⟨rfl, S2, hW2, hs2⟩
     have HW2 := Lib.hid hW2
     clear hW2
     go_wp2_with (fail)
     go_end0
     rw [hfin.out]
     exact ⟨rfl, S2, HW2.out, hs1.trans hs2⟩
   · have hfin : Hid (WS.lay ⟨room, xs, 0⟩ bs = ⟨room, xs, 4⟩) := by
      simp only [Hid, WS.lay]
      rw [if_neg (by simp), if_pos (by omega)]
     go_enter Tryz.func52, Tryz.ntmps52
     go_wp2_with (fail)
     refine (fits_no S p ⟨room, xs, 0⟩ bs.length w hW0.out (by simp; omega) (by omega) (by show room - xs.length < _; omega)).mono ?_
     rintro e w1 ⟨rfl, S1, hW1, hs1⟩
     have HW1 := Lib.hid hW1
     clear hW1
     go_wp2_with (fail)
     go_end0
     rw [hfin.out]
     exact ⟨rfl, S1, HW1.out, hs1⟩
 · have hfin : Hid (WS.lay ⟨room, xs, err⟩ bs = ⟨room, xs, err⟩) := by simp [Hid, WS.lay, he]
   have he' : (err == 0) = false := by simp [he]
   go_enter Tryz.func52, Tryz.ntmps52
   go_wp2
   go_end0
   rw [hfin.out]
   exact ⟨rfl, hW0.out.drewN 0⟩
theorem WDone.seq {S S1 : Nat -> Prop} {p : Nat} {s1 s2 : WS} {w w1 w2 : World} (h : Step S S1 w w1) (g : WrTo S1 p s2 w1 w2) : WrTo S p s2 w w2 := by
 obtain ⟨S2, h2, h3⟩ := g
 exact ⟨S2, h2, h.trans h3⟩
set_option maxHeartbeats 400000 in
theorem blob_any (S D : Nat -> Prop) (p : Nat) (s : WS) (ao : Option Addr) (bs : List UInt8) (cap : Nat) (w : World) (hW : Wr w S p s) (hV : View w D ao bs) (hD : Dis D S) (hbs : bs.length <= 90000000) (hxs : s.xs.length <= 90000000) :
 Calls Tryz.prog 53 #[.pointer (some ⟨p, 0, none⟩), .slice ao bs.length cap] w (WDone S p (s.blob bs) w) := by
 have hW0 := Lib.hid hW
 have hV0 := Lib.hid hV
 obtain ⟨v, T, hb, hrow, hT, hS, hr0, hr1⟩ := hW
 have h2 := cell_of_block (i := 2) hb rfl
 have f2 := frozen_of_block (i := 2) hb
 obtain ⟨room, xs, err⟩ := s
 simp only at h2 hr0 hr1 hxs
 clear hb hrow hT hV
 by_cases he : err = 0
 · subst he
   by_cases hlong : 65535 < bs.length
   · have hfin : Hid (WS.blob ⟨room, xs, 0⟩ bs = ⟨room, xs, 4⟩) := by
      simp only [Hid, WS.blob]
      rw [if_neg (by simp), if_pos hlong]
     go_enter Tryz.func53, Tryz.ntmps53
     go_wp2
     go_end0
     rw [hfin.out]
     exact ⟨rfl, hW0.out.fault 0 4⟩
   · by_cases hf : (2 : Int) + bs.length <= room - xs.length
     · have hfin : Hid (WS.blob ⟨room, xs, 0⟩ bs = ⟨room, (xs ++ le bs.length 2) ++ bs, 0⟩) := by
        simp only [Hid, WS.blob, WS.lay]
        rw [if_neg (by simp), if_neg hlong, if_neg (by simp), if_neg (by rw [List.length_append, le_len]; omega), List.append_assoc]
       go_enter Tryz.func53, Tryz.ntmps53
       go_wp2_with (fail)
       refine (fits_yes S p ⟨room, xs, 0⟩ (2 + bs.length) w hW0.out (by simp; omega) (by omega) hf).mono ?_
       rintro e w1 ⟨rfl, S1, hW1, hs1⟩
       have HW1 := Lib.hid hW1
       clear hW1
       go_wp2_with (fail)
       refine (putNum_any S1 p ⟨room, xs, 0⟩ bs.length 2 w1 HW1.out (by omega) (by simp; omega)).mono ?_
       rintro e w2 ⟨rfl, S2, hW2, hs2⟩
       have HW2 := Lib.hid hW2
       clear hW2
       go_wp2_with (fail)
       refine (putBytes_any S2 _ p ⟨room, xs ++ le bs.length 2, 0⟩ ao bs cap w2 HW2.out (hV0.out.live.step (hs1.trans hs2) (fun k hk => hD k hk.1)) (hD.step (hs1.trans hs2)) (by omega) (by simp [le_len]; omega)).mono ?_
       rintro e w3 ⟨rfl, S3, hW3, hs3⟩
       have HW3 := Lib.hid hW3
       clear hW3
       go_wp2_with (fail)
       go_end0
       rw [hfin.out]
       exact ⟨rfl, S3, HW3.out, (hs1.trans hs2).trans hs3⟩
     · have hfin : Hid (WS.blob ⟨room, xs, 0⟩ bs = ⟨room, xs, 4⟩) := by
        simp only [Hid, WS.blob, WS.lay]
        rw [if_neg (by simp), if_neg hlong, if_neg (by simp), if_pos (by rw [List.length_append, le_len]; omega)]
       go_enter Tryz.func53, Tryz.ntmps53
       go_wp2_with (fail)
       refine (fits_no S p ⟨room, xs, 0⟩ (2 + bs.length) w hW0.out (by simp; omega) (by omega) (by show room - xs.length < _; omega)).mono ?_
       rintro e w1 ⟨rfl, S1, hW1, hs1⟩
       have HW1 := Lib.hid hW1
       clear hW1
       go_wp2_with (fail)
       go_end0
       rw [hfin.out]
       exact ⟨rfl, S1, HW1.out, hs1⟩
 · have hfin : Hid (WS.blob ⟨room, xs, err⟩ bs = ⟨room, xs, err⟩) := by simp [Hid, WS.blob, he]
   have he' : (err == 0) = false := by simp [he]
   go_enter Tryz.func53, Tryz.ntmps53
   go_wp2
   go_end0
   rw [hfin.out]
   exact ⟨rfl, hW0.out.drewN 0⟩
def OutDone (S : Nat -> Prop) (p : Nat) (s : WS) (w : World) (e : Ending) (w' : World) : Prop :=
 ∃ ao cap T, e = .returned (.tuple #[.slice ao s.xs.length cap, .int .i64 s.err]) /\ Row w' 5 1 T (.slice ao s.xs.length cap) s.xs.length (s.xs.map byteV) /\ Wr w' S p s /\ Step (fun _ => False) T w w'
set_option maxHeartbeats 400000 in
theorem out_any (S : Nat -> Prop) (p : Nat) (s : WS) (w : World) (hW : Wr w S p s) (hxs : s.xs.length <= 1000000000) :
 Calls Tryz.prog 54 #[.pointer (some ⟨p, 0, none⟩)] w (OutDone S p s w) := by
 have hW0 := Lib.hid hW
 obtain ⟨v, T, hb, hrow, hT, hS, hr0, hr1⟩ := hW
 obtain ⟨ao, cap, rfl, hc1, hc2, -⟩ := hrow.form
 have h1 := cell_of_block (i := 1) hb rfl
 have h2 := cell_of_block (i := 2) hb rfl
 have hp := lt_of_block hb
 have HB := Lib.hid hb
 have HR := Lib.hid hrow
 clear hb hrow hS
 go_enter Tryz.func54, Tryz.ntmps54
 go_wp2
 go_region_law (go_simp; go_at_call 47; refine (clone_any T ao s.xs cap w.drew HR.out.drew.view hxs).mono ?_; rintro e w1 ⟨ao1, cap1, T1, rfl, hr1, hs1⟩; have h2' : w1.cell? ⟨p, 2, none⟩ = some (.int .i64 s.err) := (World.cell?_of_block (w := w) (hs1.block p hp (fun h => h))).trans h2)
 all_goals
  have hg : Step (fun _ => False) T1 w w1 := ((Step.refl (fun _ => False) w).drew).trans hs1
  have HG := Lib.hid hg
  clear hg
  go_wp2
  go_ret2
  exact ⟨ao1, cap1, T1, rfl, hr1, hW0.out.keep HG.out (fun _ _ h => h), HG.out⟩
end Cod
end Go.Proofs.YtahjjcmeocibbaaGreatDoor
end
section
namespace Go.Proofs.YtahjjcmeocibbaaGreatDoor
open Go.RowKit Go.Own
namespace Cod
structure RS where
 l : List UInt8
 err : Int
def Rd (w : World) (S : Nat -> Prop) (p : Nat) (r : RS) : Prop :=
 ∃ ao cap D, w.heap[p]? = some (.cells #[.slice ao r.l.length cap, .int .i64 r.err] 164 (0, 0)) /\ View w D ao r.l /\ ¬ D p /\ (∀ k, S k ↔ (k = p \/ D k)) /\ (∀ k, D k -> k < w.heap.size) /\
  r.l.length <= cap /\ cap <= maxLen /\ (ao = none -> cap = 0) /\ ∀ a, ao = some a -> a.spot = none
theorem Rd.keep {w w' : World} {S T U : Nat -> Prop} {p : Nat} {r : RS} (h : Rd w S p r) (g : Step T U w w') (hd : Dis S T) : Rd w' S p r := by
 obtain ⟨ao, cap, D, hb, hV, hD, hS, hl, rest⟩ := h
 exact ⟨ao, cap, D, (g.block p (lt_of_block hb) (hd p ((hS p).2 (.inl rfl)))).trans hb, hV.step g (fun k hk => hd k ((hS k).2 (.inr hk))), hD, hS, fun k hk => Nat.lt_of_lt_of_le (hl k hk) g.size, rest⟩
theorem Rd.lt {w : World} {S : Nat -> Prop} {p : Nat} {r : RS} (h : Rd w S p r) : ∀ k, S k -> k < w.heap.size := by
 obtain ⟨ao, cap, D, hb, hV, hD, hS, hl, rest⟩ := h
 intro k hk
 rcases (hS k).1 hk with rfl | h
 · exact lt_of_block hb
 · exact hl k h
def RdTo (S : Nat -> Prop) (p : Nat) (r : RS) (w w' : World) : Prop := Rd w' S p r /\ Step S S w w'
theorem Rd.fault {w : World} {S : Nat -> Prop} {p : Nat} {r : RS} (h : Rd w S p r) (n : Nat) (x : Int) : RdTo S p ⟨r.l, x⟩ w ((w.drewN n).setCell ⟨p, 1, none⟩ (.int .i64 x)) := by
 obtain ⟨ao, cap, D, hb, hV, hD, hS, hl, rest⟩ := h
 have g : Step (fun k => k = p) (fun k => k = p) w ((w.drewN n).setCell ⟨p, 1, none⟩ (.int .i64 x)) := ((Step.refl (fun k => k = p) w).drewN n).setCell (a := ⟨p, 1, none⟩) (Or.inl rfl) _
 refine ⟨⟨ao, cap, D, ?_, hV.step g (fun k h e => hD (e ▸ h)), hD, hS, fun k hk => Nat.lt_of_lt_of_le (hl k hk) g.size, rest⟩, ((Step.refl S w).drewN n).setCell (a := ⟨p, 1, none⟩) (Or.inl ((hS p).2 (.inl rfl))) _⟩
 have e : (w.drewN n).heap[p]? = some (.cells #[.slice ao r.l.length cap, .int .i64 r.err] 164 (0, 0)) := hb
 rw [block_setCell e]
 rfl
theorem Rd.left {w : World} {S D : Nat -> Prop} {p : Nat} {v : Value} {l : List UInt8} {err : Int} {ao : Option Addr} {cap : Nat}
 (hb : w.heap[p]? = some (.cells #[v, .int .i64 err] 164 (0, 0))) (hD : ¬ D p) (hS : ∀ k, S k ↔ (k = p \/ D k)) (hl : ∀ k, D k -> k < w.heap.size)
 (hV : View w D ao l) (h1 : l.length <= cap) (h2 : cap <= maxLen) (h3 : ao = none -> cap = 0) (h4 : ∀ a, ao = some a -> a.spot = none) :
 RdTo S p ⟨l, err⟩ w (w.setCell ⟨p, 0, none⟩ (.slice ao l.length cap)) := by
 have g : Step (fun k => k = p) (fun k => k = p) w (w.setCell ⟨p, 0, none⟩ (.slice ao l.length cap)) := (Step.refl (fun k => k = p) w).setCell (a := ⟨p, 0, none⟩) (Or.inl rfl) _
 refine ⟨⟨ao, cap, D, ?_, hV.step g (fun k h e => hD (e ▸ h)), hD, hS, fun k hk => Nat.lt_of_lt_of_le (hl k hk) g.size, h1, h2, h3, h4⟩, (Step.refl S w).setCell (a := ⟨p, 0, none⟩) (Or.inl ((hS p).2 (.inl rfl))) _⟩
 rw [block_setCell hb]
 rfl
theorem View.take {w : World} {D : Nat -> Prop} {ao : Option Addr} {l : List UInt8} (h : View w D ao l) (n : Nat) : View w D ao (l.take n) := by
 rcases h with rfl | ⟨b, o, e, hS, hb, hc⟩
 · exact .inl (by simp)
 · refine .inr ⟨b, o, e, hS, hb, fun j hj => ?_⟩
   rw [List.length_take] at hj
   rw [hc j (by omega)]
   simp [List.getD, show j < n by omega]
theorem View.drop {w : World} {D : Nat -> Prop} {b o : Nat} {l : List UInt8} (h : View w D (some ⟨b, o, none⟩) l) (n : Nat) : View w D (some ⟨b, o + n, none⟩) (l.drop n) := by
 rcases h with rfl | ⟨b', o', e, hS, hb, hc⟩
 · exact .inl (by simp)
 · cases e
   refine .inr ⟨b, o + n, rfl, hS, hb, fun j hj => ?_⟩
   rw [List.length_drop] at hj
   have := hc (n + j) (by omega)
   rw [Nat.add_assoc, this]
   simp [List.getD]
def TakeDone (S : Nat -> Prop) (p : Nat) (r : RS) (n : Nat) (w : World) (e : Ending) (w' : World) : Prop :=
 ∃ ao cap D, e = .returned (.slice ao n cap) /\ View w' D ao (r.l.take n) /\ (∀ k, D k -> S k) /\ RdTo S p ⟨r.l.drop n, r.err⟩ w w'
set_option maxHeartbeats 400000 in
theorem take_any (S : Nat -> Prop) (p : Nat) (r : RS) (n : Nat) (w : World) (hR : Rd w S p r) (hn : n <= r.l.length) :
 Calls Tryz.prog 91 #[.pointer (some ⟨p, 0, none⟩), .int .i64 n] w (TakeDone S p r n w) := by
 obtain ⟨ao, cap, D, hb, hV, hD, hS, hlt, hlc, hm, hnone, hspot⟩ := hR
 obtain ⟨l, err⟩ := r
 simp only at hb hV hn hlc
 have h0 := cell_of_block (i := 0) hb rfl
 have f0 := frozen_of_block (i := 0) hb
 unfold maxLen at hm
 cases ao with
 | none =>
  obtain rfl := hnone rfl
  obtain rfl : l = [] := List.eq_nil_of_length_eq_zero (by omega)
  obtain rfl : n = 0 := by simpa using hn
  have key : TakeDone S p ⟨[], err⟩ 0 w (.returned (.slice none 0 0)) (w.setCell ⟨p, 0, none⟩ (.slice none 0 0)) :=
   ⟨none, 0, D, rfl, .inl (by simp), fun k hk => (hS k).2 (.inr hk), Rd.left (ao := none) (l := []) hb hD hS hlt hV (by simp) (by simp [maxLen]) (fun _ => rfl) (fun a h => by cases h)⟩
  have K := Lib.hid key
  clear key hb hV hD hS hlt
  simp only [List.length_nil] at h0
  go_enter Tryz.func91, Tryz.ntmps91
  go_wp2
  go_ret
  exact K.out
 | some a =>
  obtain ⟨b, o, sp⟩ := a
  obtain rfl : sp = none := hspot _ rfl
  obtain ⟨len, hlen⟩ : ∃ len, len = l.length := ⟨_, rfl⟩
  have key1 : cap = n -> TakeDone S p ⟨l, err⟩ n w (.returned (.slice (some ⟨b, o, none⟩) n n)) (w.setCell ⟨p, 0, none⟩ (.slice (some ⟨b, o, none⟩) (len - n) 0)) := by
   intro hc
   have e : l.drop n = [] := List.drop_eq_nil_of_le (by omega)
   have e2 : len - n = 0 := by omega
   refine ⟨some ⟨b, o, none⟩, n, D, rfl, (View.take hV n).step (T := fun k => k = p) (U := fun k => k = p) ((Step.refl (fun k => k = p) w).setCell (a := ⟨p, 0, none⟩) (Or.inl rfl) _) (fun k h e => hD (e ▸ h)), fun k hk => (hS k).2 (.inr hk), ?_⟩
   rw [e, e2]
   exact Rd.left (ao := some ⟨b, o, none⟩) (l := []) hb hD hS hlt (.inl rfl) (by simp) (by simp [maxLen]) (fun h => by cases h) (fun a h => by cases h; rfl)
  have key2 : TakeDone S p ⟨l, err⟩ n w (.returned (.slice (some ⟨b, o, none⟩) n cap)) (w.setCell ⟨p, 0, none⟩ (.slice (some ⟨b, o + n, none⟩) (len - n) (cap - n))) := by
   refine ⟨some ⟨b, o, none⟩, cap, D, rfl, (View.take hV n).step (T := fun k => k = p) (U := fun k => k = p) ((Step.refl (fun k => k = p) w).setCell (a := ⟨p, 0, none⟩) (Or.inl rfl) _) (fun k h e => hD (e ▸ h)), fun k hk => (hS k).2 (.inr hk), ?_⟩
   have e : len - n = (l.drop n).length := by rw [List.length_drop]; omega
   rw [e]
   exact Rd.left (ao := some ⟨b, o + n, none⟩) (l := l.drop n) hb hD hS hlt (View.drop hV n) (by rw [List.length_drop]; omega) (by unfold maxLen; omega) (fun h => by cases h) (fun a h => by cases h; rfl)
  have K1 := Lib.hid key1
  have K2 := Lib.hid key2
  rw [<- hlen] at h0 hn hlc
  clear key1 key2 hb hV hD hS hlt hlen hnone hspot
  go_enter Tryz.func91, Tryz.ntmps91
  go_wp2
  all_goals go_ret
  · exact K1.out (by omega)
  · exact K2.out
def num : List UInt8 -> Nat
 | [] => 0
 | c :: r => c.toNat + 256 * num r
theorem num_snoc (l : List UInt8) (c : UInt8) : num (l ++ [c]) = num l + 2 ^ (8 * l.length) * c.toNat := by
 induction l with
 | nil => simp [num]
 | cons d r ih =>
  have e : 2 ^ (8 * (r.length + 1)) = 256 * 2 ^ (8 * r.length) := by rw [Nat.mul_add, Nat.pow_add]; simp [Nat.mul_comm]
  rw [List.cons_append, num, ih, num, List.length_cons, e, Nat.mul_add, Nat.mul_assoc]
  omega
theorem or_shift (m k : Nat) (c : UInt8) (hk : k < 8) (hm : m < 2 ^ (8 * k)) :
 bits .or .u64 (m : Int) (IntKind.u64.wrap (IntKind.u64.wrap (c.toNat : Int) * 2 ^ (8 * k))) = ((m + 2 ^ (8 * k) * c.toNat : Nat) : Int) := by
 have hc := c.toNat_lt
 have hp : (2 : Nat) ^ (8 * k) <= 2 ^ 56 := Nat.pow_le_pow_right (by omega) (by omega)
 have hlt : 2 ^ (8 * k) * c.toNat < 2 ^ 64 := Nat.lt_of_le_of_lt (Nat.mul_le_mul hp (show c.toNat <= 255 by omega)) (by decide)
 have e1 : IntKind.u64.wrap (c.toNat : Int) = (c.toNat : Int) := IntWalk.u64_in _ (by omega)
 have e2 : (c.toNat : Int) * 2 ^ (8 * k) = ((2 ^ (8 * k) * c.toNat : Nat) : Int) := by simp [Int.mul_comm]
 have e3 : IntKind.u64.wrap ((2 ^ (8 * k) * c.toNat : Nat) : Int) = ((2 ^ (8 * k) * c.toNat : Nat) : Int) := IntWalk.u64_in _ (by omega)
 rw [e1, e2, e3, bits_or_u64_nat _ _ (by omega) (by omega), Nat.or_comm, <- Nat.two_pow_add_eq_or_of_lt hm]
 rw [Nat.add_comm]
theorem num_lt (l : List UInt8) : num l < 2 ^ (8 * l.length) := by
 induction l with
 | nil => simp [num]
 | cons d r ih =>
  have e : 2 ^ (8 * (r.length + 1)) = 256 * 2 ^ (8 * r.length) := by rw [Nat.mul_add, Nat.pow_add]; simp [Nat.mul_comm]
  have := d.toNat_lt
  simp only [num, List.length_cons, e]
  omega
set_option maxHeartbeats 400000 in
theorem number_any (D : Nat -> Prop) (ao : Option Addr) (l : List UInt8) (cap : Nat) (w : World) (hV : View w D ao l) (hl : l.length <= 8) :
 Calls Tryz.prog 90 #[.slice ao l.length cap] w fun e w' => e = .returned (.int .u64 (num l)) /\ w = w' := by
 obtain ⟨len, hlen⟩ : ∃ len, len = l.length := ⟨_, rfl⟩
 rw [<- hlen]
 rw [<- hlen] at hl
 have HL := Lib.hid hlen
 clear hlen
 go_enter Tryz.func90, Tryz.ntmps90
 go_wp2
 go_loop [3, 4, 7] (fun n _ i => ∃ k : Nat, k <= len /\ i = .int .i64 k /\ n = .int .u64 (num (l.take k))) (fun _ _ i => len - (intOf i).toNat)
 case atStart => exact ⟨0, Nat.zero_le _, rfl, rfl⟩
 case round =>
  obtain ⟨k, hk, rfl, rfl⟩ := hrel
  by_cases hlt : k < len
  · obtain ⟨b, o, rfl, hbD, hbw, hc⟩ : ∃ b o, ao = some ⟨b, o, none⟩ /\ D b /\ b < w.heap.size /\ ∀ j, j < l.length -> w.cell? ⟨b, o + j, none⟩ = some (.int .u8 ((l.getD j 0).toNat : Int)) := by
     rcases hV with h | h
     · have := HL.out; rw [h] at this; simp at this; omega
     · exact h
    obtain ⟨c, hcd⟩ : ∃ c, c = l.getD k 0 := ⟨_, rfl⟩
    have hcx : w.cell? ⟨b, o + k, none⟩ = some (.int .u8 (c.toNat : Int)) := by rw [hcd]; exact hc k (by rw [<- HL.out]; exact hlt)
    have hsn : l.take (k + 1) = l.take k ++ [c] := by
     rw [List.take_succ_eq_append_getElem (by rw [<- HL.out]; exact hlt), hcd]
     simp [show k < l.length by rw [<- HL.out]; exact hlt]
    have HC := Lib.hid hsn
    have hk8 : IntKind.i64.wrap (8 * (k : Int)) = 8 * (k : Int) := IntWalk.i64_in _ (by omega)
    have hk0 : (0 : Int) <= 8 * (k : Int) := by omega
    clear hcd hsn hc hbD hbw hV
    obtain ⟨m, hm⟩ : ∃ m, m = num (l.take k) := ⟨_, rfl⟩
    rw [<- hm]
    have HM := Lib.hid hm
    have hm2 : m < 2 ^ (8 * k) := by
     have := num_lt (l.take k)
     rw [List.length_take, Nat.min_eq_left (by rw [<- HL.out]; omega), <- hm] at this
     exact this
    have hor := or_shift m k c (by omega) hm2
    clear hm hm2
    obtain ⟨q, hq⟩ : ∃ q : Nat, q = m + 2 ^ (8 * k) * c.toNat := ⟨_, rfl⟩
    rw [<- hq] at hor
    have HQ := Lib.hid hq
    clear hq
    go_wp2
    go_round
    case rel =>
     refine ⟨k + 1, by omega, by go_num, ?_⟩
     rw [HC.out, num_snoc, <- HM.out, List.length_take, Nat.min_eq_left (by rw [<- HL.out]; omega), <- HQ.out]
    case measure => simp [intOf]; omega
  · have hkl : l.take k = l := List.take_of_length_le (by rw [<- HL.out]; omega)
    have HK := Lib.hid hkl
    clear hkl
    go_wp2
    go_ret
    exact ⟨by rw [HK.out]; rfl, rfl⟩
end Cod
end Go.Proofs.YtahjjcmeocibbaaGreatDoor
end
section
namespace Go.Proofs.YtahjjcmeocibbaaGreatDoor
open Go.RowKit Go.Own
namespace Cod
def RS.num (r : RS) (many : Int) : Nat × RS :=
 if r.err ≠ 0 then (0, r) else if many < 0 \/ 8 < many then (0, ⟨r.l, 1⟩) else if (r.l.length : Int) < many then (0, ⟨r.l, 10⟩) else (Cod.num (r.l.take many.toNat), ⟨r.l.drop many.toNat, 0⟩)
def RS.raw (r : RS) (n : Int) : List UInt8 × RS :=
 if r.err ≠ 0 then ([], r) else if n < 0 then ([], ⟨r.l, 1⟩) else if (r.l.length : Int) < n then ([], ⟨r.l, 10⟩) else (r.l.take n.toNat, ⟨r.l.drop n.toNat, 0⟩)
def blobSz (l : List UInt8) (most : Int) : Nat × Int :=
 if l.length < 2 then (0, 10) else if max most 0 < (Cod.num (l.take 2) : Int) then (0, 4) else if l.length - 2 < Cod.num (l.take 2) then (0, 10) else (Cod.num (l.take 2), 0)
def RS.blob (r : RS) (most : Int) : List UInt8 × RS :=
 if r.err ≠ 0 then ([], r) else if (blobSz r.l most).2 ≠ 0 then ([], ⟨r.l, (blobSz r.l most).2⟩) else ((r.l.drop 2).take (blobSz r.l most).1, ⟨(r.l.drop 2).drop (blobSz r.l most).1, 0⟩)
def RS.fin (r : RS) : Int := if r.err = 0 /\ r.l ≠ [] then 11 else r.err
def NewRDone (l : List UInt8) (w : World) (e : Ending) (w' : World) : Prop :=
 ∃ p S, e = .returned (.pointer (some ⟨p, 0, none⟩)) /\ Rd w' S p ⟨l, 0⟩ /\ Step (fun _ => False) S w w'
theorem newReader_any (D : Nat -> Prop) (ao : Option Addr) (l : List UInt8) (cap : Nat) (w : World) (hV : View w D ao l) (hl : l.length <= 1000000000) :
 Calls Tryz.prog 57 #[.slice ao l.length cap] w (NewRDone l w) := by
 go_enter Tryz.func57, Tryz.ntmps57
 go_wp2_with (fail)
 refine (clone_any D ao l cap w hV hl).mono ?_
 rintro e w1 ⟨ao1, cap1, T, rfl, hr, hs⟩
 go_wp2
 go_ret
 obtain ⟨ao', cap', hv, h1, h2, h3, h4⟩ := hr.form
 simp only [Value.slice.injEq, true_and] at hv
 obtain ⟨rfl, rfl⟩ := hv
 have g : Step T (fun k => k = w1.heap.size \/ T k) w1 (w1.alloc (.cells #[.slice ao1 l.length cap1, .int .i64 0] 164)) := ((Step.refl T w1).alloc _).to (fun k hk => hk.elim (fun e => .inr (Nat.le_of_eq e.symm)) .inl)
 refine ⟨w1.heap.size, fun k => k = w1.heap.size \/ T k, rfl, ⟨ao1, cap1, T, heap_alloc_new w1 _, hr.view.step ((Step.refl (fun _ => False) w1).alloc _) (fun _ _ h => h), fun h => by have := hr.lt _ h; omega, fun k => Iff.rfl, fun k hk => by have := hr.lt k hk; simp; omega, h1, h2, fun h => (h3 h).2.1, fun a h => by obtain ⟨g, rfl, _⟩ := h4 a h; rfl⟩, hs.trans g⟩
theorem end_any (S : Nat -> Prop) (p : Nat) (r : RS) (w : World) (hR : Rd w S p r) :
 Calls Tryz.prog 61 #[.pointer (some ⟨p, 0, none⟩)] w fun e w' => e = .returned (.int .i64 r.fin) /\ w = w' := by
 obtain ⟨ao, cap, D, hb, hV, hD, hS, hlt, hlc, hm, hnone, hspot⟩ := hR
 obtain ⟨l, err⟩ := r
 have h0 := cell_of_block (i := 0) hb rfl
 have h1 := cell_of_block (i := 1) hb rfl
 clear hb hV hD hS hlt
 simp only at h0 h1
 obtain ⟨n, hn⟩ : ∃ n, n = l.length := ⟨_, rfl⟩
 rw [<- hn] at h0
 by_cases he : err = 0
 · subst he
   by_cases hz : n = 0
   · have hfin : RS.fin ⟨l, 0⟩ = 0 := by
      have : l = [] := List.eq_nil_of_length_eq_zero (by omega)
      simp [RS.fin, this]
     rw [hfin]
     subst hz
     clear hn hfin
     go_enter Tryz.func61, Tryz.ntmps61
     go_wp2
     go_ret
     exact ⟨rfl, rfl⟩
   · have hfin : RS.fin ⟨l, 0⟩ = 11 := by
      have : l ≠ [] := by rintro rfl; simp at hn; omega
      simp [RS.fin, this]
     rw [hfin]
     have hz' : 0 < n := by omega
     clear hn hfin
     go_enter Tryz.func61, Tryz.ntmps61
     go_wp2
     go_ret
     exact ⟨rfl, rfl⟩
 · have hfin : RS.fin ⟨l, err⟩ = err := by simp [RS.fin, he]
   rw [hfin]
   have he' : (err == 0) = false := by simp [he]
   clear hn hfin
   go_enter Tryz.func61, Tryz.ntmps61
   go_wp2
   go_ret
   exact ⟨rfl, rfl⟩
def NumRDone (S : Nat -> Prop) (p : Nat) (x : Nat × RS) (w : World) (e : Ending) (w' : World) : Prop := e = .returned (.int .u64 x.1) /\ RdTo S p x.2 w w'
theorem Rd.same {w : World} {S : Nat -> Prop} {p : Nat} {r : RS} (h : Rd w S p r) : RdTo S p r w w := ⟨h, Step.refl S w⟩
set_option maxHeartbeats 400000 in
theorem rnum_any (S : Nat -> Prop) (p : Nat) (r : RS) (many : Int) (w : World) (hR : Rd w S p r) (hl : r.l.length <= 1000000000) :
 Calls Tryz.prog 58 #[.pointer (some ⟨p, 0, none⟩), .int .i64 many] w (NumRDone S p (r.num many) w) := by
 have hR0 := Lib.hid hR
 obtain ⟨ao, cap, D, hb, hV, hD, hS, hlt, hlc, hm, hnone, hspot⟩ := hR
 obtain ⟨l, err⟩ := r
 have h0 := cell_of_block (i := 0) hb rfl
 have h1 := cell_of_block (i := 1) hb rfl
 have f1 := frozen_of_block (i := 1) hb
 clear hb hV hD hS hlt hlc hm hnone hspot
 simp only at h0 h1 hl
 by_cases he : err = 0
 · subst he
   by_cases hbad : many < 0 \/ 8 < many
   · have hfin : Hid (RS.num ⟨l, 0⟩ many = (0, ⟨l, 1⟩)) := by simp [Hid, RS.num, hbad]
     by_cases hneg : many < 0
     · go_enter Tryz.func58, Tryz.ntmps58
       go_wp2
       go_ret
       rw [hfin.out]
       exact ⟨rfl, hR0.out.fault 0 1⟩
     · have hbig : 8 < many := by omega
       go_enter Tryz.func58, Tryz.ntmps58
       go_wp2
       go_ret
       rw [hfin.out]
       exact ⟨rfl, hR0.out.fault 0 1⟩
   · obtain ⟨k, rfl⟩ := Int.eq_ofNat_of_zero_le (show 0 <= many by omega)
     have hk8 : k <= 8 := by omega
     by_cases hs : (l.length : Int) < k
     · have hfin : Hid (RS.num ⟨l, 0⟩ k = (0, ⟨l, 10⟩)) := by
        simp only [Hid, RS.num]
        rw [if_neg (by simp), if_neg hbad, if_pos hs]
       go_enter Tryz.func58, Tryz.ntmps58
       go_wp2
       go_ret
       rw [hfin.out]
       exact ⟨rfl, hR0.out.fault 0 10⟩
     · have hfin : Hid (RS.num ⟨l, 0⟩ k = (Cod.num (l.take k), ⟨l.drop k, 0⟩)) := by
        simp only [Hid, RS.num]
        rw [if_neg (by simp), if_neg hbad, if_neg hs, Int.toNat_natCast]
       go_enter Tryz.func58, Tryz.ntmps58
       go_wp2_with (fail)
       refine (take_any S p ⟨l, 0⟩ k w hR0.out (by simp; omega)).mono ?_
       rintro e w1 ⟨ao1, cap1, D1, rfl, hV1, hD1, hR1⟩
       have HV1 := Lib.hid hV1
       have HR1 := Lib.hid hR1
       clear hV1 hR1
       go_wp2_with (fail)
       have hlen : (l.take k).length = k := by rw [List.length_take]; omega
       have hnum := number_any D1 ao1 (l.take k) cap1 w1 HV1.out (by omega)
       rw [hlen] at hnum
       refine hnum.mono ?_
       rintro e w2 ⟨rfl, rfl⟩
       clear hnum hlen
       go_wp2
       go_ret
       rw [hfin.out]
       exact ⟨rfl, HR1.out⟩
 · have hfin : Hid (RS.num ⟨l, err⟩ many = (0, ⟨l, err⟩)) := by simp [Hid, RS.num, he]
   have he' : (err == 0) = false := by simp [he]
   go_enter Tryz.func58, Tryz.ntmps58
   go_wp2
   go_ret
   rw [hfin.out]
   exact ⟨rfl, hR0.out.same⟩
end Cod
end Go.Proofs.YtahjjcmeocibbaaGreatDoor
end
section
namespace Go.Proofs.YtahjjcmeocibbaaGreatDoor
open Go.RowKit Go.Own
namespace Cod
def RawDone (S : Nat -> Prop) (p : Nat) (x : List UInt8 × RS) (w : World) (e : Ending) (w' : World) : Prop :=
 ∃ ao cap T, e = .returned (.slice ao x.1.length cap) /\ Row w' 5 1 T (.slice ao x.1.length cap) x.1.length (x.1.map byteV) /\ Rd w' S p x.2 /\ Step S S w w' /\ ∀ k, T k -> w.heap.size <= k
theorem RawDone.empty {S : Nat -> Prop} {p : Nat} {r : RS} {w w' : World} (h : RdTo S p r w w') : RawDone S p ([], r) w (.returned (.slice none 0 0)) w' :=
 ⟨none, 0, fun _ => False, rfl, Row.nil _ _ _, h.1, h.2, fun _ h => h.elim⟩
theorem RawDone.mk' {S T : Nat -> Prop} {p : Nat} {r : RS} {l : List UInt8} {n : Nat} {w w1 w2 : World} {ao : Option Addr} {cap : Nat} (hn : l.length = n) (h : RdTo S p r w w1) (hr : Row w2 5 1 T (.slice ao n cap) n (l.map byteV)) (hs : Step (fun _ => False) T w1 w2) :
 RawDone S p (l, r) w (.returned (.slice ao n cap)) w2 := by
 subst hn
 refine ⟨ao, cap, T, rfl, hr, h.1.keep hs (fun _ _ h => h), ?_, fun k hk => (hs.new k hk).elim (fun h => h.elim) (fun g => Nat.le_trans h.2.size g)⟩
 have g := h.2
 exact ⟨hs.os.trans g.os, hs.tape.trans g.tape, hs.output.trans g.output, Nat.le_trans g.size hs.size, fun k hk hS => (hs.block k (by have := g.size; omega) (fun h => h)).trans (g.block k hk hS), fun k hk => .inl hk⟩
set_option maxHeartbeats 400000 in
theorem rraw_any (S : Nat -> Prop) (p : Nat) (r : RS) (n : Int) (w : World) (hR : Rd w S p r) (hl : r.l.length <= 1000000000) :
 Calls Tryz.prog 59 #[.pointer (some ⟨p, 0, none⟩), .int .i64 n] w (RawDone S p (r.raw n) w) := by
 have hR0 := Lib.hid hR
 obtain ⟨ao, cap, D, hb, hV, hD, hS, hlt, hlc, hm, hnone, hspot⟩ := hR
 obtain ⟨l, err⟩ := r
 have h0 := cell_of_block (i := 0) hb rfl
 have h1 := cell_of_block (i := 1) hb rfl
 have f1 := frozen_of_block (i := 1) hb
 clear hb hV hD hS hlt hlc hm hnone hspot
 simp only at h0 h1 hl
 by_cases he : err = 0
 · subst he
   by_cases hneg : n < 0
   · have hfin : Hid (RS.raw ⟨l, 0⟩ n = ([], ⟨l, 1⟩)) := by simp [Hid, RS.raw, hneg]
     go_enter Tryz.func59, Tryz.ntmps59
     go_wp2
     go_ret
     rw [hfin.out]
     exact RawDone.empty (hR0.out.fault 0 1)
   · obtain ⟨k, rfl⟩ := Int.eq_ofNat_of_zero_le (show 0 <= n by omega)
     by_cases hs : (l.length : Int) < k
     · have hfin : Hid (RS.raw ⟨l, 0⟩ k = ([], ⟨l, 10⟩)) := by
        simp only [Hid, RS.raw]
        rw [if_neg (by simp), if_neg hneg, if_pos hs]
       go_enter Tryz.func59, Tryz.ntmps59
       go_wp2
       go_ret
       rw [hfin.out]
       exact RawDone.empty (hR0.out.fault 0 10)
     · have hfin : Hid (RS.raw ⟨l, 0⟩ k = (l.take k, ⟨l.drop k, 0⟩)) := by
        simp only [Hid, RS.raw]
        rw [if_neg (by simp), if_neg hneg, if_neg hs, Int.toNat_natCast]
       go_enter Tryz.func59, Tryz.ntmps59
       go_wp2_with (fail)
       refine (take_any S p ⟨l, 0⟩ k w hR0.out (by simp; omega)).mono ?_
       rintro e w1 ⟨ao1, cap1, D1, rfl, hV1, hD1, hR1⟩
       have HV1 := Lib.hid hV1
       have HR1 := Lib.hid hR1
       clear hV1 hR1
       go_wp2_with (fail)
       have hlen : (l.take k).length = k := by rw [List.length_take]; omega
       have hcl := clone_any D1 ao1 (l.take k) cap1 w1 HV1.out (by omega)
       unfold CloneDone at hcl
       rw [hlen] at hcl
       have HL := Lib.hid hlen
       refine hcl.mono ?_
       rintro e w2 ⟨ao2, cap2, T2, rfl, hr2, hs2⟩
       have HR2 := Lib.hid hr2
       clear hcl hr2 hlen
       go_wp2
       go_ret
       rw [hfin.out]
       exact RawDone.mk' HL.out HR1.out HR2.out hs2
 · have hfin : Hid (RS.raw ⟨l, err⟩ n = ([], ⟨l, err⟩)) := by simp [Hid, RS.raw, he]
   have he' : (err == 0) = false := by simp [he]
   go_enter Tryz.func59, Tryz.ntmps59
   go_wp2
   go_ret
   rw [hfin.out]
   exact RawDone.empty hR0.out.same
set_option maxHeartbeats 400000 in
theorem blobSize_any (D : Nat -> Prop) (ao : Option Addr) (l : List UInt8) (cap : Nat) (most : Int) (w : World) (hV : View w D ao l) (hl : l.length <= 1000000000) (hc : l.length <= cap) (hm : cap <= maxLen) (hmost : most <= 9223372036854775807) :
 Calls Tryz.prog 92 #[.slice ao l.length cap, .int .i64 most] w fun e w' => e = .returned (.tuple #[.int .i64 (blobSz l most).1, .int .i64 (blobSz l most).2]) /\ w = w' := by
 unfold maxLen at hm
 by_cases h2 : l.length < 2
 · have hfin : Hid (blobSz l most = (0, 10)) := by simp [Hid, blobSz, h2]
   go_enter Tryz.func92, Tryz.ntmps92
   go_wp2
   go_ret2
   rw [hfin.out]
   exact ⟨rfl, rfl⟩
 · obtain ⟨b, o, rfl⟩ : ∃ b o, ao = some ⟨b, o, none⟩ := by
    rcases hV with rfl | ⟨b, o, h, _⟩
    · simp at h2
    · exact ⟨b, o, h⟩
   obtain ⟨m, hm0⟩ : ∃ m, m = num (l.take 2) := ⟨_, rfl⟩
   have hm1 : m < 65536 := by have := num_lt (l.take 2); rw [List.length_take, Nat.min_eq_left (by omega), <- hm0] at this; exact this
   have hlen : (l.take 2).length = 2 := by rw [List.length_take]; omega
   have hnum : ∀ wx cx, View wx D (some ⟨b, o, none⟩) l -> Calls Tryz.prog 90 #[.slice (some ⟨b, o, none⟩) 2 cx] wx fun e w' => e = .returned (.int .u64 m) /\ wx = w' := by
    intro wx cx hv
    have := number_any D (some ⟨b, o, none⟩) (l.take 2) cx wx (View.take hv 2) (by omega)
    rw [hlen, <- hm0] at this
    exact this
   have HN := Lib.hid hnum
   have HV := Lib.hid hV
   have HM := Lib.hid hm0
   clear hnum hV hm0 hlen
   by_cases h3 : max most 0 < (m : Int)
   · have hfin : Hid (blobSz l most = (0, 4)) := by
      simp only [Hid, blobSz]
      rw [if_neg h2, <- HM.out, if_pos h3]
     go_enter Tryz.func92, Tryz.ntmps92
     go_wp2_with (fail)
     refine (HN.out _ _ HV.out).mono ?_
     rintro e w1 ⟨rfl, rfl⟩
     go_wp2
     all_goals go_ret2
     all_goals rw [hfin.out]
     all_goals exact ⟨rfl, rfl⟩
   · by_cases h4 : l.length - 2 < m
     · have hfin : Hid (blobSz l most = (0, 10)) := by
        simp only [Hid, blobSz]
        rw [if_neg h2, <- HM.out, if_neg h3, if_pos h4]
       go_enter Tryz.func92, Tryz.ntmps92
       go_wp2_with (fail)
       refine (HN.out _ _ HV.out).mono ?_
       rintro e w1 ⟨rfl, rfl⟩
       go_wp2
       all_goals go_ret2
       all_goals rw [hfin.out]
       all_goals exact ⟨rfl, rfl⟩
     · have hfin : Hid (blobSz l most = (m, 0)) := by
        simp only [Hid, blobSz]
        rw [if_neg h2, <- HM.out, if_neg h3, if_neg h4]
       go_enter Tryz.func92, Tryz.ntmps92
       go_wp2_with (fail)
       refine (HN.out _ _ HV.out).mono ?_
       rintro e w1 ⟨rfl, rfl⟩
       go_wp2
       all_goals go_ret2
       all_goals rw [hfin.out]
       all_goals exact ⟨rfl, rfl⟩
set_option maxHeartbeats 800000 in
theorem rblob_any (S : Nat -> Prop) (p : Nat) (r : RS) (most : Int) (w : World) (hR : Rd w S p r) (hl : r.l.length <= 1000000000) (hmost : most <= 9223372036854775807) :
 Calls Tryz.prog 60 #[.pointer (some ⟨p, 0, none⟩), .int .i64 most] w (RawDone S p (r.blob most) w) := by
 have hR0 := Lib.hid hR
 obtain ⟨ao, cap, D, hb, hV, hD, hS, hlt, hlc, hm, hnone, hspot⟩ := hR
 obtain ⟨l, err⟩ := r
 have h0 := cell_of_block (i := 0) hb rfl
 have h1 := cell_of_block (i := 1) hb rfl
 have f1 := frozen_of_block (i := 1) hb
 simp only at h0 h1 hl hlc hV
 have hsz := Lib.hid (blobSize_any D ao l cap most w hV hl hlc hm hmost)
 clear hb hV hD hS hlt hlc hm hnone hspot
 by_cases he : err = 0
 · subst he
   obtain ⟨sz, er, hbs⟩ : ∃ sz er, blobSz l most = (sz, er) := ⟨_, _, rfl⟩
   by_cases hz : er = 0
   · subst hz
     have hfin : Hid (RS.blob ⟨l, 0⟩ most = ((l.drop 2).take sz, ⟨(l.drop 2).drop sz, 0⟩)) := by
      simp only [Hid, RS.blob, hbs]
      rw [if_neg (by simp), if_neg (by simp)]
     have hb2 : 2 <= l.length /\ sz <= (l.drop 2).length := by
      rw [List.length_drop]
      unfold blobSz at hbs
      split at hbs
      · simp at hbs
      · split at hbs
        · simp at hbs
        · split at hbs
          · simp at hbs
          · simp at hbs; omega
     have HB := Lib.hid hbs
     have HB2 := Lib.hid hb2
     clear hbs hb2
     go_enter Tryz.func60, Tryz.ntmps60
     go_wp2_with (fail)
     refine hsz.out.mono ?_
     rintro e w1 ⟨rfl, rfl⟩
     rw [HB.out]
     go_wp2_with (fail)
     refine (take_any S p ⟨l, 0⟩ 2 w hR0.out (by have := HB2.out.1; simpa using this)).mono ?_
     rintro e w1 ⟨ao1, cap1, D1, rfl, hV1, hD1, hR1⟩
     have HR1 := Lib.hid hR1
     clear hV1 hR1
     go_wp2_with (fail)
     refine (take_any S p ⟨l.drop 2, 0⟩ sz w1 HR1.out.1 HB2.out.2).mono ?_
     rintro e w2 ⟨ao2, cap2, D2, rfl, hV2, hD2, hR2⟩
     have HV2 := Lib.hid hV2
     have HR2 := Lib.hid hR2
     clear hV2 hR2
     go_wp2_with (fail)
     have hlen : ((l.drop 2).take sz).length = sz := by rw [List.length_take]; have := HB2.out.2; omega
     have hcl := clone_any D2 ao2 ((l.drop 2).take sz) cap2 w2 HV2.out (by have := HB2.out.2; rw [List.length_drop] at this; omega)
     unfold CloneDone at hcl
     rw [hlen] at hcl
     have HL := Lib.hid hlen
     refine hcl.mono ?_
     rintro e w3 ⟨ao3, cap3, T3, rfl, hr3, hs3⟩
     have HR3 := Lib.hid hr3
     clear hcl hr3 hlen
     go_wp2
     go_ret
     rw [hfin.out]
     exact RawDone.mk' HL.out ⟨HR2.out.1, HR1.out.2.trans HR2.out.2⟩ HR3.out hs3
   · have hfin : Hid (RS.blob ⟨l, 0⟩ most = ([], ⟨l, er⟩)) := by
      simp only [Hid, RS.blob, hbs]
      rw [if_neg (by simp), if_pos hz]
     have HB := Lib.hid hbs
     clear hbs
     go_enter Tryz.func60, Tryz.ntmps60
     go_wp2_with (fail)
     refine hsz.out.mono ?_
     rintro e w1 ⟨rfl, rfl⟩
     rw [HB.out]
     go_wp2
     go_ret
     rw [hfin.out]
     exact RawDone.empty (hR0.out.fault 0 er)
 · have hfin : Hid (RS.blob ⟨l, err⟩ most = ([], ⟨l, err⟩)) := by simp [Hid, RS.blob, he]
   have he' : (err == 0) = false := by simp [he]
   go_enter Tryz.func60, Tryz.ntmps60
   go_wp2
   go_ret
   rw [hfin.out]
   exact RawDone.empty hR0.out.same
end Cod
end Go.Proofs.YtahjjcmeocibbaaGreatDoor
end
section
namespace Go.Proofs.YtahjjcmeocibbaaGreatDoor
open Go.RowKit Go.Own
namespace Cod
def AW (p : Nat) (s : WS) : Asn where
 holds S w := Wr w S p s
 keep h g hd := h.keep g hd
 lt h := h.lt
def AR (p : Nat) (r : RS) : Asn where
 holds S w := Rd w S p r
 keep h g hd := h.keep g hd
 lt h := h.lt
def AB (ao : Option Addr) (n cap : Nat) (l : List UInt8) : Asn := ARow 5 1 (.slice ao n cap) n (l.map byteV)
section
variable {B : Nat} {w0 w : World} {Ps : List Asn} {p : Nat} {s : WS} {r : RS}
theorem newWriter_st (H : St B w0 w Ps) (room : Int) (h1 : room <= 9223372036854775807) :
 Calls Tryz.prog 49 #[.int .i64 room] w fun e w' => ∃ p, e = .returned (.pointer (some ⟨p, 0, none⟩)) /\ St B w0 w' (AW p ⟨max room 0, [], 0⟩ :: Ps) := by
 refine (newWriter_any room w h1).mono ?_
 rintro e w' ⟨p, S, he, hW, hs⟩
 exact ⟨p, he, H.new (AW p _) hW hs⟩
theorem num_st (H : St B w0 w Ps) (i : Nat) (hi : Ps[i]? = some (AW p s)) (n : Nat) (many : Int) (hxs : s.xs.length <= 100000000) :
 Calls Tryz.prog 50 #[.pointer (some ⟨p, 0, none⟩), .int .u64 n, .int .i64 many] w fun e w' => e = .returned (.tuple #[]) /\ St B w0 w' (Ps.set i (AW p (s.num n many))) := by
 obtain ⟨S, hS, _, put⟩ := H.at i hi
 refine (num_any S p s n many w hS hxs).mono ?_
 rintro e w' ⟨he, S', hW, hs⟩
 exact ⟨he, put S' w' (AW p _) hW hs⟩
theorem raw_st (H : St B w0 w Ps) (i : Nat) (hi : Ps[i]? = some (AW p s)) {ao : Option Addr} {bs : List UInt8} (cap : Nat) (hV : View w (fun k => k < B) ao bs) (hbs : bs.length <= 100000000) (hxs : s.xs.length <= 100000000) :
 Calls Tryz.prog 52 #[.pointer (some ⟨p, 0, none⟩), .slice ao bs.length cap] w fun e w' => e = .returned (.tuple #[]) /\ St B w0 w' (Ps.set i (AW p (s.lay bs))) := by
 obtain ⟨S, hS, hB, put⟩ := H.at i hi
 refine (raw_any S _ p s ao bs cap w hS hV (fun k hk h => by have := hB k h; omega) hbs hxs).mono ?_
 rintro e w' ⟨he, S', hW, hs⟩
 exact ⟨he, put S' w' (AW p _) hW hs⟩
theorem blob_st (H : St B w0 w Ps) (i : Nat) (hi : Ps[i]? = some (AW p s)) {ao : Option Addr} {bs : List UInt8} (cap : Nat) (hV : View w (fun k => k < B) ao bs) (hbs : bs.length <= 90000000) (hxs : s.xs.length <= 90000000) :
 Calls Tryz.prog 53 #[.pointer (some ⟨p, 0, none⟩), .slice ao bs.length cap] w fun e w' => e = .returned (.tuple #[]) /\ St B w0 w' (Ps.set i (AW p (s.blob bs))) := by
 obtain ⟨S, hS, hB, put⟩ := H.at i hi
 refine (blob_any S _ p s ao bs cap w hS hV (fun k hk h => by have := hB k h; omega) hbs hxs).mono ?_
 rintro e w' ⟨he, S', hW, hs⟩
 exact ⟨he, put S' w' (AW p _) hW hs⟩
theorem out_st (H : St B w0 w Ps) (i : Nat) (hi : Ps[i]? = some (AW p s)) {n : Nat} (hn : s.xs.length = n) (hxs : n <= 1000000000) :
 Calls Tryz.prog 54 #[.pointer (some ⟨p, 0, none⟩)] w fun e w' => ∃ ao cap, e = .returned (.tuple #[.slice ao n cap, .int .i64 s.err]) /\ St B w0 w' (AB ao n cap s.xs :: Ps) := by
 subst hn
 obtain ⟨S, hS, _, _⟩ := H.at i hi
 refine (out_any S p s w hS hxs).mono ?_
 rintro e w' ⟨ao, cap, T, he, hr, _, hs⟩
 exact ⟨ao, cap, he, H.new (AB ao _ cap s.xs) hr hs⟩
theorem newReader_old (H : St B w0 w Ps) {ao : Option Addr} {l : List UInt8} (cap : Nat) (hV : View w (fun k => k < B) ao l) (hl : l.length <= 1000000000) :
 Calls Tryz.prog 57 #[.slice ao l.length cap] w fun e w' => ∃ p, e = .returned (.pointer (some ⟨p, 0, none⟩)) /\ St B w0 w' (AR p ⟨l, 0⟩ :: Ps) := by
 refine (newReader_any _ ao l cap w hV hl).mono ?_
 rintro e w' ⟨p, S, he, hR, hs⟩
 exact ⟨p, he, H.new (AR p _) hR hs⟩
theorem rnum_st (H : St B w0 w Ps) (i : Nat) (hi : Ps[i]? = some (AR p r)) (many : Int) {x : Nat × RS} (hx : r.num many = x) (hl : r.l.length <= 1000000000) :
 Calls Tryz.prog 58 #[.pointer (some ⟨p, 0, none⟩), .int .i64 many] w fun e w' => e = .returned (.int .u64 x.1) /\ St B w0 w' (Ps.set i (AR p x.2)) := by
 subst hx
 obtain ⟨S, hS, _, put⟩ := H.at i hi
 refine (rnum_any S p r many w hS hl).mono ?_
 rintro e w' ⟨he, hR, hs⟩
 exact ⟨he, put S w' (AR p _) hR hs⟩
theorem rraw_st (H : St B w0 w Ps) (i : Nat) (hi : Ps[i]? = some (AR p r)) (n : Int) {x : List UInt8 × RS} (hx : r.raw n = x) {m : Nat} (hm : x.1.length = m) (hl : r.l.length <= 1000000000) :
 Calls Tryz.prog 59 #[.pointer (some ⟨p, 0, none⟩), .int .i64 n] w fun e w' => ∃ ao cap, e = .returned (.slice ao m cap) /\ St B w0 w' (AB ao m cap x.1 :: Ps.set i (AR p x.2)) := by
 subst hx hm
 obtain ⟨S, hS, put⟩ := H.more i hi
 have hlt := (AR p r).lt hS
 refine (rraw_any S p r n w hS hl).mono ?_
 rintro e w' ⟨ao, cap, T, he, hr, hR, hs, hT⟩
 exact ⟨ao, cap, he, put S T w' (AR p _) (AB ao _ cap _) hR hr hs hT hlt⟩
theorem rblob_st (H : St B w0 w Ps) (i : Nat) (hi : Ps[i]? = some (AR p r)) (n : Int) (hn : n <= 9223372036854775807) {x : List UInt8 × RS} (hx : r.blob n = x) {m : Nat} (hm : x.1.length = m) (hl : r.l.length <= 1000000000) :
 Calls Tryz.prog 60 #[.pointer (some ⟨p, 0, none⟩), .int .i64 n] w fun e w' => ∃ ao cap, e = .returned (.slice ao m cap) /\ St B w0 w' (AB ao m cap x.1 :: Ps.set i (AR p x.2)) := by
 subst hx hm
 obtain ⟨S, hS, put⟩ := H.more i hi
 have hlt := (AR p r).lt hS
 refine (rblob_any S p r n w hS hl hn).mono ?_
 rintro e w' ⟨ao, cap, T, he, hr, hR, hs, hT⟩
 exact ⟨ao, cap, he, put S T w' (AR p _) (AB ao _ cap _) hR hr hs hT hlt⟩
theorem end_st (H : St B w0 w Ps) (i : Nat) (hi : Ps[i]? = some (AR p r)) :
 Calls Tryz.prog 61 #[.pointer (some ⟨p, 0, none⟩)] w fun e w' => e = .returned (.int .i64 r.fin) /\ w = w' := by
 obtain ⟨S, hS, _, _⟩ := H.at i hi
 exact end_any S p r w hS
end
end Cod
end Go.Proofs.YtahjjcmeocibbaaGreatDoor
end
section
namespace Go.Proofs.YtahjjcmeocibbaaGreatDoor
open Go.RowKit Go.Own
namespace Cod
theorem lay_fits (s : WS) (bs : List UInt8) (he : s.err = 0) (h : (bs.length : Int) <= s.room - s.xs.length) : s.lay bs = ⟨s.room, s.xs ++ bs, 0⟩ := by
 unfold WS.lay
 rw [if_neg (by simpa using he), if_neg (by omega), he]
theorem num_fits (s : WS) (n k : Nat) (he : s.err = 0) (hk : k <= 8) (h : (k : Int) <= s.room - s.xs.length) : s.num n k = ⟨s.room, s.xs ++ le n k, 0⟩ := by
 unfold WS.num
 rw [if_neg (by simpa using he), if_neg (by omega), Int.toNat_natCast, lay_fits s _ he (by rw [le_len]; exact h)]
theorem blob_fits (s : WS) (bs : List UInt8) (he : s.err = 0) (hb : bs.length <= 65535) (h : ((2 + bs.length : Nat) : Int) <= s.room - s.xs.length) : s.blob bs = ⟨s.room, s.xs ++ (le bs.length 2 ++ bs), 0⟩ := by
 unfold WS.blob
 rw [if_neg (by simpa using he), if_neg (by omega), lay_fits s _ he (by rw [List.length_append, le_len]; exact h)]
end Cod
end Go.Proofs.YtahjjcmeocibbaaGreatDoor
end
section
namespace Go.Own
open Go.RowKit
def RdRow (w : World) (v : Value) (n : Nat) (xs : List Value) : Prop := ∃ ao cap, v = .slice ao n cap /\ (n = 0 \/ ∃ g, ao = some ⟨g, 0, none⟩ /\ ∀ j u, xs[j]? = some u -> w.cell? ⟨g, j, none⟩ = some u)
theorem cellLater' {W w : World} {a : Addr} {v : Value} (h : W.cell? a = some v) (hb : Below W.heap.size W w) : w.cell? a = some v := by
 have hlt : a.block < W.heap.size := by
  unfold World.cell? at h
  rcases Nat.lt_or_ge a.block W.heap.size with h1 | h1
  · exact h1
  · rw [Array.getElem?_eq_none h1] at h; simp at h
 unfold World.cell? at h ⊢
 rw [hb.block a.block hlt]
 exact h
theorem RdRow.later {W w : World} {v : Value} {n : Nat} {xs : List Value} (h : RdRow W v n xs) (hb : Below W.heap.size W w) : RdRow w v n xs := by
 obtain ⟨ao, cap, rfl, h⟩ := h
 refine ⟨ao, cap, rfl, ?_⟩
 rcases h with h | ⟨g, e, h⟩
 · exact .inl h
 · exact .inr ⟨g, e, fun j u hu => cellLater' (h j u hu) hb⟩
def tyRow (n : Nat) (xs : List Value) : Ty where
 holds v w := RdRow w v n xs
 keep h g := h.later g
theorem rd_own {B : Nat} {w0 w : World} {Ps : List Asn} {e : TypeId} {size n : Nat} {v : Value} {xs : List Value} (H : St B w0 w Ps) (i : Nat) (hi : Ps[i]? = some (ARow e size v n xs)) : RdRow w v n xs := by
 obtain ⟨ao, cap, rfl⟩ := H.rowForm i hi
 refine ⟨ao, cap, rfl, ?_⟩
 cases ao with
 | none => exact .inl ((H.rowLen i hi).2.2.2 rfl).1
 | some a =>
  rcases Nat.eq_zero_or_pos n with h0 | hp
  · exact .inl h0
  · have hl := (H.rowLen i hi).1
    by_cases hs : size = 0
    · obtain ⟨S, hS, _⟩ := H.at i hi
      obtain ⟨ao', cap', hv, _, _, _, hg⟩ := Row.form hS
      simp only [Value.slice.injEq, true_and] at hv
      obtain ⟨rfl, rfl⟩ := hv
      obtain ⟨g, rfl, _⟩ := hg a rfl
      exact .inr ⟨g, rfl, fun j u hu => by have := (List.getElem?_eq_some_iff.1 hu).1; rw [hl, hs] at this; omega⟩
    · have hpos : 0 < n * size := Nat.mul_pos hp (Nat.pos_of_ne_zero hs)
      obtain ⟨g, hg, _⟩ := H.rowAt i hi 0 hpos
      cases hg
      refine .inr ⟨g, rfl, fun j u hu => ?_⟩
      have hj : j < n * size := by rw [<- hl]; exact (List.getElem?_eq_some_iff.1 hu).1
      obtain ⟨g', hg', ⟨u', hu', hc⟩, _⟩ := H.rowAt i hi j hj
      cases hg'
      rw [hc, <- hu', hu]
end Go.Own
namespace Go.Proofs.YtahjjcmeocibbaaGreatDoor
open Go.RowKit Go.Own
namespace Tab
open Go.TabM
abbrev iV (k : Nat) : Value := .int .i64 (k : Int)
end Tab
end Go.Proofs.YtahjjcmeocibbaaGreatDoor
end
section
namespace Go.Own
open Go.RowKit
end Go.Own
namespace Go.Proofs.YtahjjcmeocibbaaGreatDoor
open Go.RowKit Go.Own
namespace Tab
open Go.TabM
theorem manyInt : Many Tryz.prog 23 3 1 8 := ⟨Tryz.underlying23, by kernel_rfl, by decide⟩
abbrev RowI (v : Value) (l : List Nat) (n : Nat) : Asn := ARow 3 1 v n (l.map iV)
theorem one_cellI (w : World) (i : Nat) : ∀ a, some (⟨w.heap.size, 0, none⟩ : Addr) = some a -> ∀ j u, ([iV i] : List Value)[j]? = some u -> (w.alloc (.cells #[.int .i64 (i : Int)] 3)).cell? (a.add j) = some u := by
 intro a ha j u hu
 cases ha
 cases j with
 | zero =>
  simp at hu
  subst hu
  rw [add_of]
  exact ((Own.St.start w).boxV 3 [iV i]).cellV 0 rfl 0 rfl |>.1
 | succ j => simp at hu
section
variable {B : Nat} {w0 w : World} {Ps : List Asn} {q : Nat} {v : Value} {t : T} {N : Nat}
end
end Tab
end Go.Proofs.YtahjjcmeocibbaaGreatDoor
end
section
namespace Go.Own
open Go.RowKit
section
variable {α : Type}
structure RoundE (P : Program) (ty : TypeId) (z : List Value) (B : Nat) (w0 wr : World) (Ps : List Asn) (b o : Nat) (vs : List Value) : Prop where
 range : wr.rangeAt b o vs
 there : (wr.alloc (.cells z.toArray ty)).there wr.heap.size 0 vs.toArray.size
 st : St B w0 ((wr.alloc (.cells z.toArray ty)).setCells wr.heap.size 0 vs.toArray.toList) (AVals wr.heap.size ty vs :: Ps)
 info : (P.info? ty).map (·.size) = some vs.length
 info2 : (P.info? ty).map (·.size) = some vs.toArray.size
 one : vs.toArray.all (·.oneCell') = true
 len : vs.length = z.length
theorem round_E {P : Program} {ty : TypeId} {z vs : List Value} {B : Nat} {w0 wr : World} {Ps : List Asn} {b o : Nat} (H : St B w0 wr Ps) (hr : wr.rangeAt b o vs) (hl : vs.length = z.length) (hi : (P.info? ty).map (·.size) = some z.length) (h1 : ∀ v ∈ vs, v.oneCell' = true) : RoundE P ty z B w0 wr Ps b o vs := by
 have hz := H.boxV ty z
 refine ⟨hr, ?_, ?_, by rw [hl]; exact hi, by rw [List.size_toArray, hl]; exact hi, all_oneCell_toArray h1, hl⟩
 · exact hz.thereV 0 rfl (by rw [List.size_toArray, hl]; exact Nat.le_refl _)
 · have := St.setAll 0 vs 0 _ _ z hz rfl (by rw [Nat.zero_add, hl])
   simpa using this
end
end Go.Own
end
section
namespace Go.Proofs.YtahjjcmeocibbaaGreatDoor
open Go.RowKit Go.Own
namespace Tab
open Go.TabM
abbrev i64T (x : Int) : Prop := -9223372036854775808 <= x /\ x <= 9223372036854775807
structure Kept (W : World) where
 A : Nat -> T -> Asn
 new : ∀ {B : Nat} {w0 w : World} {Ps : List Asn} (num : Int), Below W.heap.size W w -> Own.St B w0 w Ps -> i64T num ->
  Calls Tryz.prog 6 #[.int .i64 num] w fun e w' => if mayBe num = true then ∃ p, e = .returned (.tuple #[ptr p, errT 0]) /\ Own.St B w0 w' (A p (fresh num.toNat) :: Ps) else e = .returned (.tuple #[.pointer none, errT 1]) /\ Own.St B w0 w' Ps
 open_ : ∀ {B : Nat} {w0 w : World} {Ps : List Asn} {p : Nat} {t : T} {N : Nat}, Below W.heap.size W w -> Own.St B w0 w (A p t :: Ps) -> Ok t N -> N <= 10000 ->
  Calls Tryz.prog 94 #[ptr p] w fun e w' => e = .returned (opV (openT t).2) /\ Own.St B w0 w' (A p (openT t).1 :: Ps)
 seal_ : ∀ {B : Nat} {w0 w : World} {Ps : List Asn} {p : Nat} {t : T} {N : Nat}, Below W.heap.size W w -> Own.St B w0 w (A p t :: Ps) -> Ok t N -> N <= 10000 ->
  Calls Tryz.prog 93 #[ptr p] w fun e w' => e = .returned (errT (sealT t).2) /\ Own.St B w0 w' (A p (sealT t).1 :: Ps)
 cur : ∀ {B : Nat} {w0 w : World} {Ps : List Asn} {p : Nat} {t : T} {N : Nat}, Below W.heap.size W w -> Own.St B w0 w (A p t :: Ps) -> Ok t N -> N <= 10000 -> Calls Tryz.prog 15 #[ptr p] w fun e w' => e = .returned (curV t) /\ Below w.heap.size w w'
 sealedUp : ∀ {B : Nat} {w0 w : World} {Ps : List Asn} {p : Nat} {t : T} {N : Nat}, Below W.heap.size W w -> Own.St B w0 w (A p t :: Ps) -> Ok t N -> N <= 10000 -> ∀ {s : Nat}, sealedL t = List.range s -> Calls Tryz.prog 14 #[ptr p] w fun e w' => ∃ ao c, e = .returned (.slice ao s c) /\ Own.St B w0 w' (RowI (.slice ao s c) (List.range s) s :: A p t :: Ps)
 rows : ∀ {B : Nat} {w0 w : World} {Ps : List Asn} {p : Nat} {t : T} {N : Nat}, Below W.heap.size W w -> Own.St B w0 w (A p t :: Ps) -> Ok t N -> N <= 10000 -> Calls Tryz.prog 26 #[ptr p] w fun e w' => ∃ ao c, e = .returned (.slice ao t.rows.length c) /\ Own.St B w0 w' (ARow 145 3 (.slice ao t.rows.length c) t.rows.length (t.rows.flatMap sgC) :: A p t :: Ps) /\ Below w.heap.size w w'
section
variable {B : Nat} {w0 w : World} {Ps : List Asn} {p : Nat} {t : T} {N : Nat}
end
end Tab
end Go.Proofs.YtahjjcmeocibbaaGreatDoor
end
