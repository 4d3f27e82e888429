/- Merged: LaxF TabR Res Cod CodC CodS TabRd Rdw LaxG LaxH Slo StoA StbM MapV StbA StbB StbC -/
import Derived.BigQuiet
import Derived.BigRegion
import Derived.Deep.QuietTactic
import Derived.Lib.Hide
import Derived.Test.YtcfdjoohbicomaaRows
import Derived.WalkKit
import Derived.Deep.RegionLaw
import Derived.Deep.DeepMust
import Derived.WalkSpells
import Derived.WalkLawsBesides
import Derived.OwnWalk
import Derived.Lib.SlBytesRow
import Derived.Lib.Strings
import Derived.Laws.StructEq
import Derived.ArgAppend
import Derived.Great.Walk
import Derived.Maps.Own
import Derived.Maps.Views
import Derived.WideKeyArr
import Derived.Carry
import Derived.Maps.RangeWalk
import Derived.DeepKeys4
import Derived.Test.YtcfdjoohbicomaaR1
set_option linter.unusedVariables false
section
namespace Go.Own
open Go.RowKit

section
variable {P : Program} {ops : Array Oper} {C : World → Prop}

/-- the slots of F that are there hold new blocks, apart from one another -/
def Fresh (ops : Array Oper) (F : List Tmp) (listed : Array Bool) (a1 : Act) (w1 : World) : Prop :=
  (∀ (j : Nat) (oj : Oper) (d : Tmp), ops[j]? = some oj → listed.getD j false = true → oj.dst = some d → d ∈ F → ∃ b, a1.tmps.getD d undef = .pointer (some ⟨b, 0, none⟩) ∧ b < w1.heap.size) ∧
  ∀ (j k : Nat) (oj ok : Oper) (d d' : Tmp), ops[j]? = some oj → ops[k]? = some ok → listed.getD j false = true → listed.getD k false = true → oj.dst = some d → ok.dst = some d' → d ∈ F → d' ∈ F → d ≠ d' → a1.tmps.getD d undef ≠ a1.tmps.getD d' undef

/-- an operation's value, and that it is the new block if the operation makes one -/
theorem with_fresh {F : List Tmp} {ob : Obj} {oi : Oper} {i : Nat} {a0 a1 : Act} {w1 : World} {R : Value → World → Prop} {K : Act → World → Prop} {Q : Exit → Act → World → Prop} (hs : a1.tmps.size = a0.tmps.size)
    (hin : ∀ (k : Nat) (o : Oper) (d : Tmp), ops[k]? = some o → o.dst = some d → d < a0.tmps.size) (hoi : ops[i]? = some oi)
    (hF : ∀ (i : Nat) (oi : Oper) (d : Tmp), ops[i]? = some oi → oi.dst = some d → d ∈ F → oi.guard = none ∧ ∀ a1 w K Q, oi.wp P a1 w K Q ↔ K (a1.put (some d) (.pointer (some ⟨w.heap.size, 0, none⟩))) (w.alloc ob))
    (h : ∀ (K : Act → World → Prop) (Q : Exit → Act → World → Prop), (∀ v w', R v w' → Below w1.heap.size w1 w' → K (a1.put oi.dst v) w') → oi.wp P a1 w1 K Q)
    (k : ∀ v w', R v w' → Below w1.heap.size w1 w' → (∀ d, oi.dst = some d → d ∈ F → v = .pointer (some ⟨w1.heap.size, 0, none⟩) ∧ w1.heap.size < w'.heap.size) → K (a1.put oi.dst v) w') : oi.wp P a1 w1 K Q := by
  by_cases hd : ∃ d, oi.dst = some d ∧ d ∈ F
  · obtain ⟨d, hd, hdF⟩ := hd
    have hi := (hF i oi d hoi hd hdF).2
    obtain ⟨v, e, hv, hb⟩ := (hi a1 w1 _ Q).1 (h (fun a' w' => ∃ v, a' = a1.put oi.dst v ∧ R v w' ∧ Below w1.heap.size w1 w') Q (fun v w' h1 h2 => ⟨v, rfl, h1, h2⟩))
    have hlt : d < a1.tmps.size := by rw [hs]; exact hin i oi d hoi hd
    have e2 : v = .pointer (some ⟨w1.heap.size, 0, none⟩) := by
      have := congrArg (fun a : Act => a.tmps.getD d undef) e
      simp only [hd] at this
      rw [put_getD a1 d d _ hlt, put_getD a1 d d _ hlt, if_pos rfl, if_pos rfl] at this
      exact this.symm
    refine (hi a1 w1 K Q).2 ?_
    have := k v _ hv hb (fun d' hd' _ => ⟨e2, by simp⟩)
    rw [hd, e2] at this
    exact this
  · exact h K Q (fun v w' h1 h2 => k v w' h1 h2 (fun d h3 h4 => absurd ⟨d, h3, h4⟩ hd))

/-- an operation waits for another, by way of others -/
inductive Reach (md : Region.Mode) (ops : Array Oper) : Oper → Nat → Prop
  | one {o : Oper} {e : Edge} {j : Nat} : e ∈ o.after → Region.binds md e = true → e.on = j → Reach md ops o j
  | step {o ok : Oper} {e : Edge} {j : Nat} : e ∈ o.after → Region.binds md e = true → ops[e.on]? = some ok → Reach md ops ok j → Reach md ops o j
theorem Reach.listed {md : Region.Mode} {ops : Array Oper} {listed : Array Bool} (hc : ∀ (j : Nat) (oj : Oper), ops[j]? = some oj → listed.getD j false = true → ∀ e ∈ oj.after, Region.binds md e = true → listed.getD e.on false = true) {o : Oper} {j : Nat} (h : Reach md ops o j) :
    (∀ e ∈ o.after, Region.binds md e = true → listed.getD e.on false = true) → listed.getD j false = true := by
  induction h with
  | one he hb hj => intro ha; rw [← hj]; exact ha _ he hb
  | step he hb hk _ ih => intro ha; exact ih (hc _ _ hk (ha _ he hb))

/-- WHATEVER ORDER IS DRAWN -/
theorem wpAny_laxF {md : Region.Mode} {Q' : Exit → Act → World → Prop} (hC : ∀ w w', C w → Below w.heap.size w w' → C w') {a0 : Act} {S : Nat → Lx × Act} (hS0 : S 0 = ([], a0))
    {n : Nat} (hn : n ≤ ops.size) (hst : ∀ (k : Nat) (o : Oper), k < n → ops[k]? = some o → StepT P ops C o (S k).1 (S k).2 (S (k + 1)).1 (S (k + 1)).2)
    (hin : ∀ (k : Nat) (o : Oper) (d : Tmp), ops[k]? = some o → o.dst = some d → d < a0.tmps.size)
    (hone : ∀ (j k : Nat) (x y : Oper) (d : Tmp), ops[j]? = some x → ops[k]? = some y → x.dst = some d → y.dst = some d → j = k)
    (hlex : ∀ (i : Nat) (oi : Oper), ops[i]? = some oi → (∀ e ∈ oi.after, Region.binds md e = true → e.on < i) ∧ ∀ j oj, i < j → ops[j]? = some oj → (∃ e ∈ oj.after, Region.binds md e = true ∧ e.on = i) ∨ oi.apart ops oj = true)
    (F : List Tmp) (ob : Obj) (hF : ∀ (i : Nat) (oi : Oper) (d : Tmp), ops[i]? = some oi → oi.dst = some d → d ∈ F → oi.guard = none ∧ ∀ a1 w K Q, oi.wp P a1 w K Q ↔ K (a1.put (some d) (.pointer (some ⟨w.heap.size, 0, none⟩))) (w.alloc ob))
    (hwait : ∀ (i : Nat) (oi : Oper), n ≤ i → ops[i]? = some oi → ∀ j, j < n → Reach md ops oi j)
    (hfin : ∀ (fuel : Nat) (listed : Array Bool) (a1 : Act) (w1 : World), (∃ s, (List.range ops.size).filter (fun i => !listed.getD i true) = s ∧ s.length = fuel) → listed.size = ops.size → (∀ i, i < n → listed.getD i true = true) → (∀ j, n ≤ j → j < ops.size → listed.getD j true = false) → Rep C (S n).1 (S n).2 a1 w1 → Fresh ops F listed a1 w1 → wpAny P md ops Q' fuel listed a1 w1) :
    ∀ (fuel : Nat) (listed : Array Bool) (a1 : Act) (w1 : World), (∃ s, (List.range ops.size).filter (fun i => !listed.getD i true) = s ∧ s.length = fuel) → RunInv md n ops C a0 S listed a1 w1 → Fresh ops F listed a1 w1 → wpAny P md ops Q' fuel listed a1 w1 := by
  -- all that is not listed: none is ready only if none is left
  have hready : ∀ listed : Array Bool, listed.size = ops.size → Region.ready md ops listed = [] → ∀ i, i < ops.size → listed.getD i true = true := by
    intro listed hls hr i
    induction i using Nat.strongRecOn with
    | _ i ih =>
      intro hi
      rcases hb : listed.getD i true with _ | _
      · exfalso
        have : i ∈ Region.ready md ops listed := by
          refine mem_ready.2 ⟨hb, ops[i], Array.getElem?_eq_getElem hi, fun e he hbd => ?_⟩
          have h1 := (hlex i _ (Array.getElem?_eq_getElem hi)).1 e he hbd
          have h2 := ih e.on h1 (by omega)
          have h3 : e.on < listed.size := by omega
          simpa [h3] using h2
        rw [hr] at this
        cases this
      · rfl
  have hend : ∀ (fuel : Nat) (listed : Array Bool) (a1 : Act) (w1 : World), (∃ s, (List.range ops.size).filter (fun i => !listed.getD i true) = s ∧ s.length = fuel) → RunInv md n ops C a0 S listed a1 w1 → Fresh ops F listed a1 w1 → (∀ i, i < n → listed.getD i true = true) → wpAny P md ops Q' fuel listed a1 w1 := by
    intro fuel listed a1 w1 hcnt hI hJ hall
    have hsz := path_sizes hS0 hn hst n (Nat.le_refl _)
    refine hfin fuel listed a1 w1 hcnt hI.lsize hall hI.tail ⟨hI.world, hI.defers.trans hsz.2.symm, hI.size.trans hsz.1.symm, fun t => ?_⟩ hJ
    by_cases hw : ∃ (j : Nat) (oj : Oper), j < n ∧ ops[j]? = some oj ∧ oj.dst = some t
    · obtain ⟨j, oj, hjn, hj, hd⟩ := hw
      have hjl := (Array.getElem?_eq_some_iff.1 hj).1
      have hl : listed.getD j false = true := by
        have h1 := hall j hjn
        have h2 : j < listed.size := by rw [hI.lsize]; exact hjl
        simpa [h2] using h1
      have h1 := hI.done j oj t hj hl hd
      have h2 := path_other hS0 hn hst hin (t := t) (a1.tmps.getD t undef) w1 (j + 1) (n - (j + 1)) (by omega) (fun i oi h1 h2 hi hdi => by
        have := hone i j oi oj t hi hj hdi hd; omega)
      rw [show j + 1 + (n - (j + 1)) = n by omega] at h2
      exact h2.2 h1
    · have h1 := hI.rest t (fun j oj hj hl hd => by
        by_cases hjn : j < n
        · exact hw ⟨j, oj, hjn, hj, hd⟩
        · have hjl := (Array.getElem?_eq_some_iff.1 hj).1
          have := hI.tail j (by omega) hjl
          have h2 : j < listed.size := by rw [hI.lsize]; exact hjl
          simp [h2] at this hl
          rw [this] at hl; cases hl)
      have h2 := path_other hS0 hn hst hin (t := t) (a1.tmps.getD t undef) w1 0 n (by omega) (fun j oj _ h2 hj hd => hw ⟨j, oj, by omega, hj, hd⟩)
      rw [Nat.zero_add] at h2
      exact h2.2 ((slot0 hS0 t _ w1).2 h1)
  intro fuel
  induction fuel with
  | zero =>
    rintro listed a1 w1 ⟨s, hs, hlen⟩ hI hJ
    refine hend 0 listed a1 w1 ⟨s, hs, hlen⟩ hI hJ (fun i hi => ?_)
    have hnil : s = [] := List.eq_nil_of_length_eq_zero hlen
    subst hnil
    have := List.filter_eq_nil_iff.1 hs i (List.mem_range.2 (by omega))
    simpa using this
  | succ fuel ih =>
    rintro listed a1 w1 ⟨s, hs, hlen⟩ hI hJ
    by_cases hdone : ∀ i, i < n → listed.getD i true = true
    · exact hend (fuel + 1) listed a1 w1 ⟨s, hs, hlen⟩ hI hJ hdone
    refine ⟨fun h0 => absurd (fun i hi => hready listed hI.lsize h0 i (by omega)) hdone, fun i hi => ?_⟩
    obtain ⟨hun, oi, hoi, hall⟩ := mem_ready.1 hi
    have hin' : i < n := by
      rcases Nat.lt_or_ge i n with h | h
      · exact h
      · exfalso
        refine hdone (fun j hj => ?_)
        have h2 : j < listed.size := by rw [hI.lsize]; omega
        have h1 := (hwait i oi h hoi j hj).listed hI.closed hall
        simpa [h2] using h1
    have hil := (Array.getElem?_eq_some_iff.1 hoi).1
    have hill : i < listed.size := by rw [hI.lsize]; exact hil
    have hunf : listed.getD i false = false := by simpa [hill] using hun
    have hcount : ∃ s', (List.range ops.size).filter (fun j => !(listed.setIfInBounds i true).getD j true) = s' ∧ s'.length = fuel := by
      refine ⟨_, rfl, ?_⟩
      have hn : (List.range ops.size).Nodup := List.nodup_range
      have e : (List.range ops.size).filter (fun j => !(listed.setIfInBounds i true).getD j true) = ((List.range ops.size).filter fun j => !listed.getD j true).erase i := by
        rw [List.Nodup.erase_eq_filter (List.Pairwise.filter _ hn), List.filter_filter]
        apply List.filter_congr
        intro j hj
        by_cases hji : j = i
        · subst hji; simp [hill]
        · rw [getD_set_ne true (Ne.symm hji)]; simp [hji]
      rw [e, List.length_erase_of_mem (List.mem_filter.2 ⟨List.mem_range.2 hil, by simp only [hun]; rfl⟩), hs, hlen]
      rfl
    -- what the operation looks at is as the walk had it
    have hlook : ∀ t ∈ oi.looksAt ops, slotIs (S i).1 (S i).2 t (a1.tmps.getD t undef) w1 := by
      intro t ht
      have hback : (∀ (j : Nat) (oj : Oper), ops[j]? = some oj → oj.dst = some t → i ≤ j) → (∀ (j : Nat) (oj : Oper), ops[j]? = some oj → oj.dst = some t → listed.getD j false = false) → slotIs (S i).1 (S i).2 t (a1.tmps.getD t undef) w1 := by
        intro h1 h2
        have h3 := path_other hS0 hn hst hin (t := t) (a1.tmps.getD t undef) w1 0 i (by omega) (fun j oj _ hj ho hd => by have := h1 j oj ho hd; omega)
        rw [Nat.zero_add] at h3
        refine h3.2 ((slot0 hS0 t _ w1).2 (hI.rest t (fun j oj hj hl hd => ?_)))
        rw [h2 j oj hj hd] at hl; cases hl
      by_cases hw : ∃ (j : Nat) (oj : Oper), ops[j]? = some oj ∧ oj.dst = some t
      · obtain ⟨j, oj, hj, hd⟩ := hw
        have huniq : ∀ (j' : Nat) (oj' : Oper), ops[j']? = some oj' → oj'.dst = some t → j' = j := fun j' oj' h1 h2 => hone j' j oj' oj t h1 hj h2 hd
        rcases Nat.lt_trichotomy j i with hji | hji | hji
        · rcases (hlex j oj hj).2 i oi hji hoi with ⟨e, he, hb, heq⟩ | hap
          · have hl : listed.getD j false = true := by rw [← heq]; exact hall e he hb
            have h1 := hI.done j oj t hj hl hd
            have h2 := path_other hS0 hn hst hin (t := t) (a1.tmps.getD t undef) w1 (j + 1) (i - (j + 1)) (by omega) (fun j' oj' h1 _ h3 h4 => by have := huniq j' oj' h3 h4; omega)
            rw [show j + 1 + (i - (j + 1)) = i by omega] at h2
            exact h2.2 h1
          · exact absurd ht ((Oper.apart_spec hap).1 t hd)
        · subst hji
          refine hback (fun j' oj' h1 h2 => by have := huniq j' oj' h1 h2; omega) (fun j' oj' h1 h2 => by rw [huniq j' oj' h1 h2]; exact hunf)
        · rcases (hlex i oi hoi).2 j oj hji hj with ⟨e, he, hb, heq⟩ | hap
          · refine hback (fun j' oj' h1 h2 => by have := huniq j' oj' h1 h2; omega) (fun j' oj' h1 h2 => ?_)
            rw [huniq j' oj' h1 h2]
            rcases hlj : listed.getD j false with _ | _
            · rfl
            · have := hI.closed j oj hj hlj e he hb
              rw [heq, hunf] at this; cases this
          · exact absurd ht ((Oper.apart_spec hap).2.2 t hd)
      · exact hback (fun j oj h1 h2 => absurd ⟨j, oj, h1, h2⟩ hw) (fun j oj h1 h2 => absurd ⟨j, oj, h1, h2⟩ hw)
    have hsz := path_sizes hS0 hn hst i (by omega)
    have hsame : a1.tmps.size = (S i).2.tmps.size := hI.size.trans hsz.1.symm
    -- behind it
    have hnext : ∀ (v : Value) (w' : World), (∀ d, oi.dst = some d → slotIs (S (i + 1)).1 (S (i + 1)).2 d v w') → Below w1.heap.size w1 w' → RunInv md n ops C a0 S (listed.setIfInBounds i true) (a1.put oi.dst v) w' := by
      intro v w' hv hb
      have hget : ∀ t, oi.dst ≠ some t → (a1.put oi.dst v).tmps.getD t undef = a1.tmps.getD t undef := by
        intro t ht
        cases hd : oi.dst with
        | none => rfl
        | some d => rw [put_getD a1 d t v (by rw [hI.size]; exact hin i oi d hoi hd), if_neg (fun e => ht (by rw [hd, e]))]
      have hlist : ∀ j, (listed.setIfInBounds i true).getD j false = true → j = i ∨ listed.getD j false = true := by
        intro j hj
        by_cases hji : j = i
        · exact .inl hji
        · rw [getD_set_ne false (Ne.symm hji)] at hj; exact .inr hj
      refine ⟨hC _ _ hI.world hb, (put_defers _ _ _).trans hI.defers, (put_size _ _ _).trans hI.size, by simpa using hI.lsize, fun j oj hj hl e he hbd => ?_, fun j hnj hjl => ?_, fun j oj d hj hl hd => ?_, fun t ht => ?_⟩
      · rcases hlist j hl with rfl | hl
        · obtain rfl : oj = oi := by rw [hoi] at hj; simpa using hj.symm
          exact getD_set_true (hall e he hbd)
        · exact getD_set_true (hI.closed j oj hj hl e he hbd)
      · rw [getD_set_ne true (by omega)]; exact hI.tail _ hnj hjl
      · rcases hlist j hl with rfl | hl
        · obtain rfl : oj = oi := by rw [hoi] at hj; simpa using hj.symm
          rw [hd, put_getD a1 d d v (by rw [hI.size]; exact hin j oj d hj hd), if_pos rfl]
          exact hv d hd
        · have hne : oi.dst ≠ some d := by
            intro h
            have := hone i j oi oj d hoi hj h hd
            subst this
            rw [hunf] at hl; cases hl
          rw [hget d hne]
          exact (hI.done j oj d hj hl hd).keep hb
      · have hne : oi.dst ≠ some t := ht i oi hoi (by simp [hill])
        rw [hget t hne]
        exact hI.rest t (fun j oj hj hl => ht j oj hj (getD_set_true hl))
    have hlistF : ∀ j, (listed.setIfInBounds i true).getD j false = true → j = i ∨ listed.getD j false = true := by
      intro j hj
      by_cases hji : j = i
      · exact .inl hji
      · rw [getD_set_ne false (Ne.symm hji)] at hj; exact .inr hj
    have hfresh : ∀ (v : Value) (w' : World), (∀ d, oi.dst = some d → d ∈ F → v = .pointer (some ⟨w1.heap.size, 0, none⟩) ∧ w1.heap.size < w'.heap.size) → Below w1.heap.size w1 w' → Fresh ops F (listed.setIfInBounds i true) (a1.put oi.dst v) w' := by
      intro v w' hv hb
      have hget : ∀ t, oi.dst ≠ some t → (a1.put oi.dst v).tmps.getD t undef = a1.tmps.getD t undef := by
        intro t ht
        cases hd : oi.dst with
        | none => rfl
        | some d => rw [put_getD a1 d t v (by rw [hI.size]; exact hin i oi d hoi hd), if_neg (fun e => ht (by rw [hd, e]))]
      have hself : ∀ d, oi.dst = some d → (a1.put oi.dst v).tmps.getD d undef = v := by
        intro d hd
        rw [hd, put_getD a1 d d v (by rw [hI.size]; exact hin i oi d hoi hd), if_pos rfl]
      have hother : ∀ (j : Nat) (oj : Oper) (d : Tmp), ops[j]? = some oj → oj.dst = some d → j ≠ i → oi.dst ≠ some d := fun j oj d hj hd hji h => hji (hone j i oj oi d hj hoi hd h)
      refine ⟨fun j oj d hj hl hd hdF => ?_, fun j k oj ok d d' hj hk hlj hlk hd hd' hdF hdF' hne => ?_⟩
      · by_cases hji : j = i
        · subst hji
          obtain rfl : oj = oi := by rw [hoi] at hj; simpa using hj.symm
          obtain ⟨h1, h2⟩ := hv d hd hdF
          exact ⟨_, (hself d hd).trans h1, h2⟩
        · obtain ⟨bk, h1, h2⟩ := hJ.1 j oj d hj ((hlistF j hl).resolve_left hji) hd hdF
          exact ⟨bk, (hget d (hother j oj d hj hd hji)).trans h1, Nat.lt_of_lt_of_le h2 hb.size⟩
      · by_cases hji : j = i
        · subst hji
          obtain rfl : oj = oi := by rw [hoi] at hj; simpa using hj.symm
          have hki : k ≠ j := fun e => by
            subst e
            obtain rfl : ok = oj := by rw [hoi] at hk; simpa using hk.symm
            rw [hd] at hd'
            exact hne (by simpa using hd')
          obtain ⟨bk, h1, h2⟩ := hJ.1 k ok d' hk ((hlistF k hlk).resolve_left hki) hd' hdF'
          rw [hself d hd, hget d' (hother k ok d' hk hd' hki), h1, (hv d hd hdF).1]
          intro e
          simp at e
        · by_cases hki : k = i
          · subst hki
            obtain rfl : ok = oi := by rw [hoi] at hk; simpa using hk.symm
            obtain ⟨bk, h1, h2⟩ := hJ.1 j oj d hj ((hlistF j hlj).resolve_left hji) hd hdF
            rw [hself d' hd', hget d (hother j oj d hj hd hji), h1, (hv d' hd' hdF').1]
            intro e
            simp at e
          · rw [hget d (hother j oj d hj hd hji), hget d' (hother k ok d' hk hd' hki)]
            exact hJ.2 j k oj ok d d' hj hk ((hlistF j hlj).resolve_left hji) ((hlistF k hlk).resolve_left hki) hd hd' hdF hdF' hne
    have hkey : ∀ d, oi.dst = some d → (S i).1.lookup d = none := fun d hd => path_keys hS0 hn hst i (by omega) (fun j oj h1 h2 h3 => by have := hone j i oj oi d h2 hoi h3 hd; omega)
    have hstep := hst i oi hin' hoi
    unfold wpOp
    simp only [hoi]
    generalize hSi : S i = si at *
    generalize hSj : S (i + 1) = sj at *
    obtain ⟨Ii, ai⟩ := si
    obtain ⟨Ij, aj⟩ := sj
    simp only at hstep hlook hnext hsame hkey
    cases hstep with
    | skip hg hw =>
      rw [wanted_looks hg hsame hlook, hw]
      simp only [Bool.false_eq_true, if_false]
      refine ih _ _ _ hcount (hnext undef w1 (fun d hd => ?_) (Below.refl _ _)) (hfresh undef w1 (fun d hd hdF => ?_) (Below.refl _ _))
      · unfold slotIs
        rw [hkey d hd, hd]
        simp only
        rw [put_getD ai d d undef (by rw [← hsame, hI.size]; exact hin i oi d hoi hd), if_pos rfl]
      · have h1 := (hF i oi d hoi hd hdF).1
        unfold Region.wanted at hw
        rw [h1] at hw
        cases hw
    | val v hg hw h =>
      rw [wanted_looks hg hsame hlook, hw]
      simp only [if_true]
      refine .inl (with_fresh hI.size hin hoi hF (h a1 w1 hI.world hlook) (fun u w' hu hb hv => ih _ _ _ hcount (hnext u w' (fun d hd => ?_) hb) (hfresh u w' hv hb)))
      unfold slotIs
      rw [hkey d hd, hd]
      simp only
      rw [put_getD ai d d v (by rw [← hsame, hI.size]; exact hin i oi d hoi hd), if_pos rfl]
      exact hu
    | ty d R hd hg hw h =>
      rw [wanted_looks hg hsame hlook, hw]
      simp only [if_true]
      refine .inl (with_fresh hI.size hin hoi hF (h a1 w1 hI.world hlook) (fun u w' hu hb hv => ih _ _ _ hcount (hnext u w' (fun d' hd' => ?_) hb) (hfresh u w' hv hb)))
      obtain rfl : d = d' := by rw [hd] at hd'; simpa using hd'
      unfold slotIs
      rw [List.lookup_cons]
      simp only [BEq.rfl]
      exact hu

theorem rep_no (m j : Nat) (hl : (Array.replicate m false).getD j false = true) : False := by
  by_cases hi : j < m <;> simp [hi] at hl

/-- operations in one forced order, one behind the other -/
theorem tail_any {md : Region.Mode} {Q : Exit → Act → World → Prop} {l : List Oper} {n : Nat} (hlt : ∀ (i : Nat) (oi : Oper), l.toArray[i]? = some oi → ∀ e ∈ oi.after, Region.binds md e = true → e.on < i)
    (hch : ∀ (m i : Nat) (oi : Oper), n ≤ m → m < i → l.toArray[i]? = some oi → ∃ e ∈ oi.after, Region.binds md e = true ∧ e.on = m) :
    ∀ (r m : Nat) (listed : Array Bool) (a1 : Act) (w1 : World), m + r = l.length → n ≤ m → listed.size = l.toArray.size → (∀ i, i < m → listed.getD i true = true) → (∀ j, m ≤ j → j < l.toArray.size → listed.getD j true = false) →
      wpList P l.toArray Q (l.drop m) a1 w1 → wpAny P md l.toArray Q r listed a1 w1
  | 0, m, listed, a1, w1, hm, hnm, hls, hall, htail, hq => by
    have hnr : Region.ready md l.toArray listed = [] := by
      apply List.eq_nil_iff_forall_not_mem.2
      intro i hi
      obtain ⟨h0, o, ho, _⟩ := mem_ready.1 hi
      have h1 := (Array.getElem?_eq_some_iff.1 ho).1
      have := hall i (by simp at h1; omega)
      rw [this] at h0; cases h0
    rw [List.drop_eq_nil_of_le (by omega)] at hq
    exact wpAny_done hnr hq 0
  | r + 1, m, listed, a1, w1, hm, hnm, hls, hall, htail, hq => by
    have hml : m < l.length := by omega
    obtain ⟨o, ho⟩ : ∃ o, l[m]? = some o := ⟨l[m], by simp [hml]⟩
    have hon : l.toArray[m]? = some o := by simpa using ho
    have hdrop : l.drop m = o :: l.drop (m + 1) := by
      rw [List.drop_eq_getElem_cons hml]
      rw [List.getElem?_eq_getElem hml] at ho
      rw [Option.some.inj ho]
    rw [hdrop] at hq
    have hnl : listed.getD m true = false := htail m (Nat.le_refl _) (by simpa using hml)
    refine ⟨fun h0 => ?_, fun i hi => ?_⟩
    · exfalso
      have : m ∈ Region.ready md l.toArray listed := by
        refine mem_ready.2 ⟨hnl, o, hon, fun e he hb => ?_⟩
        have h1 := hlt m o hon e he hb
        have h2 := hall e.on h1
        have h3 : e.on < listed.size := by rw [hls]; simp; omega
        simpa [h3] using h2
      rw [h0] at this; cases this
    · obtain ⟨hun, oi, hoi, hal⟩ := mem_ready.1 hi
      have hil := (Array.getElem?_eq_some_iff.1 hoi).1
      obtain rfl : i = m := by
        rcases Nat.lt_trichotomy i m with h1 | h1 | h1
        · rw [hall i h1] at hun; cases hun
        · exact h1
        · exfalso
          obtain ⟨e, he, hb, heq⟩ := hch m i oi hnm h1 hoi
          have h2 := hal e he hb
          rw [heq] at h2
          have h3 : m < listed.size := by rw [hls]; simp; omega
          simp [h3] at h2 hnl
          rw [h2] at hnl; cases hnl
      have hmono : ∀ a2 w2, wpList P l.toArray Q (l.drop (i + 1)) a2 w2 → wpAny P md l.toArray Q r (listed.setIfInBounds i true) a2 w2 := fun a2 w2 h2 =>
        tail_any hlt hch r (i + 1) _ a2 w2 (by omega) (by omega) (by simpa using hls) (fun j hj => by
          by_cases hji : j = i
          · subst hji
            have h3 : j < listed.size := by rw [hls]; exact hil
            simp [h3]
          · rw [getD_set_ne true (Ne.symm hji)]; exact hall j (by omega)) (fun j hj hjl => by
          rw [getD_set_ne true (by omega)]; exact htail j (by omega) hjl) h2
      unfold wpOp
      simp only [hon]
      unfold wpList at hq
      split
      · rename_i hw
        rw [if_pos hw] at hq
        exact hq.imp (Oper.wp_mono hmono) (fun h => h)
      · rename_i hw
        rw [if_neg hw] at hq
        exact hmono _ _ hq

/-- the operations from n on wait for all before n (some by way of others), and each for the one ahead of it -/
def reachB (l : List Oper) : Nat → Oper → Nat → Bool
  | 0, _, _ => false
  | f + 1, o, j => o.after.any fun e => Region.binds .any e && (e.on == j || match l[e.on]? with
      | some o2 => reachB l f o2 j
      | none => false)
theorem reachB_is {l : List Oper} : ∀ (f : Nat) (o : Oper) (j : Nat), reachB l f o j = true → Reach .any l.toArray o j
  | 0, _, _, h => by cases h
  | f + 1, o, j, h => by
    unfold reachB at h
    obtain ⟨e, he, hb⟩ := Array.any_eq_true'.1 h
    simp only [Bool.and_eq_true, Bool.or_eq_true, beq_iff_eq] at hb
    rcases hb.2 with h1 | h1
    · exact .one he hb.1 h1
    · split at h1
      · rename_i o2 ho2
        exact .step he hb.1 (by simpa using ho2) (reachB_is f o2 j h1)
      · cases h1
def waitsFB (l : List Oper) (n : Nat) : Bool := (List.range l.length).all fun i => decide (i < n) || match l[i]? with
  | some o => ((List.range n).all fun j => reachB l 12 o j) && (List.range i).all fun m => decide (m < n) || o.after.any fun e => Region.binds .any e && e.on == m
  | none => false

/-- THE REGION: all but the last ones by the walk, whose new blocks are apart; then the last ones -/
theorem wp_region_laxF {id : Nat} {Q : Exit → Act → World → Prop} {a : Act} {w : World} {l : List Oper} (n : Nat) (hn : n ≤ l.length) (F : List Tmp) (ob : Obj)
    (hF : ∀ (i : Nat) (oi : Oper) (d : Tmp), l[i]? = some oi → oi.dst = some d → d ∈ F → oi.guard = none ∧ ∀ a1 w K Q, oi.wp P a1 w K Q ↔ K (a1.put (some d) (.pointer (some ⟨w.heap.size, 0, none⟩))) (w.alloc ob))
    (hFn : ∀ (i : Nat) (oi : Oper) (d : Tmp), l[i]? = some oi → oi.dst = some d → d ∈ F → i < n) (hFa : ∀ d ∈ F, ∃ (i : Nat) (oi : Oper), l[i]? = some oi ∧ oi.dst = some d)
    (hm : P.follows .mixedOrders = true) (hB : Region.lexB .any l.toArray = true) (hD : dstsB l a.tmps.size = true) (hW : waitsFB l n = true)
    (h : wpT P l.toArray (Below w.heap.size w) (fun a' w' => (∀ d d', d ∈ F → d' ∈ F → d ≠ d' → a'.tmps.getD d undef ≠ a'.tmps.getD d' undef) → wpList P l.toArray Q (l.drop n) a' w') (l.take n) [] a) : (Code.region id l.toArray true).wp P Q a w := by
  obtain ⟨S, hS0, hst, hfin⟩ := wpT_path (l.take n) [] a h
  have hB' : Region.lexFrom .any l.toArray l.toArray.size 0 (Array.replicate l.toArray.size false) = true := by
    simp only [Region.lexB, Bool.and_eq_true] at hB; exact hB.2
  have hlen : (l.take n).length = n := by rw [List.length_take]; omega
  have hlex : ∀ (i : Nat) (oi : Oper), l.toArray[i]? = some oi → (∀ e ∈ oi.after, Region.binds .any e = true → e.on < i) ∧ ∀ j oj, i < j → l.toArray[j]? = some oj → (∃ e ∈ oj.after, Region.binds .any e = true ∧ e.on = i) ∨ oi.apart l.toArray oj = true :=
    fun i oi hi => lexFrom_free _ 0 _ hB' (by simp) (fun i => by by_cases hi : i < l.length <;> simp [hi]; omega) (by simp) i oi (Nat.zero_le _) hi
  have hW' : ∀ (i : Nat) (oi : Oper), n ≤ i → l[i]? = some oi → (∀ j, j < n → Reach .any l.toArray oi j) ∧ ∀ m, n ≤ m → m < i → ∃ e ∈ oi.after, Region.binds .any e = true ∧ e.on = m := by
    intro i oi hi hoi
    have hil := (List.getElem?_eq_some_iff.1 hoi).1
    unfold waitsFB at hW
    have h1 := List.all_eq_true.1 hW i (List.mem_range.2 hil)
    rw [hoi] at h1
    simp only [Bool.or_eq_true, decide_eq_true_eq, Bool.and_eq_true] at h1
    rcases h1 with h1 | ⟨h1, h2⟩
    · omega
    refine ⟨fun j hj => reachB_is _ _ _ (List.all_eq_true.1 h1 j (List.mem_range.2 hj)), fun m hm1 hm2 => ?_⟩
    · have := List.all_eq_true.1 h2 m (List.mem_range.2 hm2)
      simp only [Bool.or_eq_true, decide_eq_true_eq] at this
      rcases this with h3 | h3
      · omega
      obtain ⟨e, he, hb⟩ := Array.any_eq_true'.1 h3
      simp only [Bool.and_eq_true, beq_iff_eq] at hb
      exact ⟨e, he, hb.1, hb.2⟩
  refine wp_region_any hm ?_
  refine wpAny_laxF (P := P) (ops := l.toArray) (C := Below w.heap.size w) (md := .any) (a0 := a) (S := S) (fun w1 w2 h1 h2 => h1.trans (h2.mono h1.size)) hS0 (n := n) (by simpa using hn) (fun k o' hk ho' => hst k o' (by rw [List.getElem?_take_of_lt hk]; simpa using ho'))
    (fun k o d hk hd => dsts_lt hD (k := k) (by simpa using hk) hd) (fun j k x y d hj hk hx hy => dsts_one hD (j := j) (k := k) (by simpa using hj) (by simpa using hk) hx hy)
    hlex F ob (fun i oi d hi => hF i oi d (by simpa using hi)) (fun i oi hi hoi j hj => ?_)
    (fun fuel listed a1 w1 ⟨s, hs, hcnt⟩ hls hall htail hr hfr => ?_) _ _ _ _ ⟨_, rfl, ?_⟩ (start_inv ⟨rfl, rfl, rfl, Nat.le_refl _, fun _ _ => rfl⟩) ⟨fun j oj d hj hl => ?_, fun j k oj ok d d' hj hk hl => ?_⟩
  · exact (hW' i oi hi (by simpa using hoi)).1 j hj
  · have hq := hfin a1 w1 (by rw [hlen]; exact hr) (fun d d' hd hd' hne => by
      obtain ⟨i, oi, hoi, hdi⟩ := hFa d hd
      obtain ⟨k, ok, hok, hdk⟩ := hFa d' hd'
      have g : ∀ (i : Nat) (oi : Oper) (d : Tmp), l[i]? = some oi → oi.dst = some d → d ∈ F → listed.getD i false = true := by
        intro i oi d h1 h2 h3
        have h4 := hall i (hFn i oi d h1 h2 h3)
        have h5 : i < listed.size := by rw [hls]; simpa using (List.getElem?_eq_some_iff.1 h1).1
        simpa [h5] using h4
      exact hfr.2 i k oi ok d d' (by simpa using hoi) (by simpa using hok) (g i oi d hoi hdi hd) (g k ok d' hok hdk hd') hdi hdk hd hd' hne)
    have hfuel : fuel = l.length - n := by
      rw [← hcnt, ← hs]
      have : (List.range l.toArray.size).filter (fun i => !listed.getD i true) = (List.range (l.length - n)).map (n + ·) := by
        have e : l.toArray.size = n + (l.length - n) := by simp; omega
        rw [e, List.range_add, List.filter_append]
        have h1 : (List.range n).filter (fun i => !listed.getD i true) = [] := by
          apply List.filter_eq_nil_iff.2
          intro i hi
          rw [hall i (List.mem_range.1 hi)]
          simp
        have h2 : ((List.range (l.length - n)).map (n + ·)).filter (fun i => !listed.getD i true) = (List.range (l.length - n)).map (n + ·) := by
          apply List.filter_eq_self.2
          intro i hi
          obtain ⟨k, hk, rfl⟩ := List.mem_map.1 hi
          have := List.mem_range.1 hk
          rw [htail (n + k) (by omega) (by omega)]
          rfl
        rw [h1, h2, List.nil_append]
      rw [this]; simp
    rw [hfuel]
    exact tail_any (n := n) (fun i oi hi => (hlex i oi hi).1) (fun m i oi h1 h2 hoi => (hW' i oi (by omega) (by simpa using hoi)).2 m h1 h2) _ n listed a1 w1 (by omega) (Nat.le_refl _) hls hall htail hq
  · rw [count_none]; simp
  · exact (rep_no _ _ hl).elim
  · exact (rep_no _ _ hl).elim

/-- no new blocks: the last operations wait for all others, some by way of another; at the end 'intro _' -/
theorem wp_laxW_list {id : Nat} {Q : Exit → Act → World → Prop} {w : World} {l : List Oper} {fs : List Value} {ds : List Deferred} (n : Nat) (hn : decide (n ≤ l.length) = true)
    (hm : P.follows .mixedOrders = true) (hB : Region.lexB .any l.toArray = true) (hD : dstsB l fs.length = true) (hW : waitsFB l n = true)
    (h : wpL P l.toArray (Below w.heap.size w) (fun a' w' => (∀ d d', d ∈ ([] : List Tmp) → d' ∈ ([] : List Tmp) → d ≠ d' → a'.tmps.getD d undef ≠ a'.tmps.getD d' undef) → wpList P l.toArray Q (l.drop n) a' w') ds (l.take n) [] fs) : (Code.region id l.toArray true).wp P Q ⟨fs.toArray, ds⟩ w :=
  wp_region_laxF n (of_decide_eq_true hn) [] (.cells #[] 0) (fun _ _ _ _ _ h => by cases h) (fun _ _ _ _ _ h => by cases h) (fun _ h => by cases h) hm hB (by simpa using hD) hW h
end
end Go.Own

end
section
namespace Go.Proofs.Ytcfdjoohbicomaa
open Go.RowKit Go.Own
namespace Tab
open Go.TabM
abbrev ptr (p : Nat) : Value := .pointer (some ⟨p, 0, none⟩)
section
variable {B : Nat} {w0 w : World} {Ps : List Asn} {q : Nat} {v : Value} {t : T}
end
section
variable {B : Nat} {w0 w : World} {Ps : List Asn} {q : Nat} {v : Value} {t : T} {N : Nat}
end
end Tab
end Go.Proofs.Ytcfdjoohbicomaa

end
section
namespace Go.Own
open Go.RowKit
/-- two results, the first a variable of many cells -/
theorem results_cell_two {P : Program} {fn : Func} {p q : Tmp} {ty : TypeId} (h : fn.results = #[.cell p ty, .tmp q]) (tmps : Array Value) (w : World) (g : Nat) (t : TypeId) (cs : Array Value) (fr : Nat × Nat) (d : TypeDesc) (v : Value)
    (hp : tmps.getD p undef = .pointer (some ⟨g, 0, none⟩)) (hq : tmps.getD q undef = v) (hg : w.heap[g]? = some (.cells cs t fr))
    (hu : P.underlying ty = some d) (hd : (match d with | .struct _ | .array _ _ => true | _ => false) = true) (hi : (P.info? ty).map (·.size) = some cs.size) :
    (results fn tmps).run P w = .ok (.tuple #[.agg cs, v]) w := by
  have hp' : tmps[p]?.getD undef = .pointer (some ⟨g, 0, none⟩) := by simpa using hp
  have hq' : tmps[q]?.getD undef = v := by simpa using hq
  simp [results, h, hp', hq', asAddr, run_loadVar_row w g t ty cs fr d hg hu hd hi]
end Go.Own

end
section
namespace Go.Proofs.Ytcfdjoohbicomaa
open Go.RowKit Go.Own

namespace Cod

/-- the many lowest bytes of n, the least significant one first -/
def le (n : Nat) : Nat → List UInt8
  | 0 => []
  | k + 1 => le n k ++ [UInt8.ofNat (n / 2 ^ (8 * k))]
/-- a writer as plain data: its room, what was written, its first error -/
structure WS where
  room : Int
  xs : List UInt8
  err : Int

end Cod
end Go.Proofs.Ytcfdjoohbicomaa

end
section
namespace Go.Proofs.Ytcfdjoohbicomaa
open Go.RowKit Go.Own
namespace Cod

/-- a reader as plain data: the bytes that are left, its first error -/
structure RS where
  l : List UInt8
  err : Int

theorem View.take {w : World} {D : Nat → Prop} {ao : Option Addr} {l : List UInt8} (h : View w D ao l) (n : Nat) : View w D ao (l.take n) := by
  rcases h with rfl | ⟨b, o, e, hS, hb, hc⟩
  · exact .inl (by simp)
  · refine .inr ⟨b, o, e, hS, hb, fun j hj => ?_⟩
    rw [List.length_take] at hj
    rw [hc j (by omega)]
    simp [List.getD, show j < n by omega]

theorem View.drop {w : World} {D : Nat → Prop} {b o : Nat} {l : List UInt8} (h : View w D (some ⟨b, o, none⟩) l) (n : Nat) : View w D (some ⟨b, o + n, none⟩) (l.drop n) := by
  rcases h with rfl | ⟨b', o', e, hS, hb, hc⟩
  · exact .inl (by simp)
  · cases e
    refine .inr ⟨b, o + n, rfl, hS, hb, fun j hj => ?_⟩
    rw [List.length_drop] at hj
    have := hc (n + j) (by omega)
    rw [Nat.add_assoc, this]
    simp [List.getD]

end Cod
end Go.Proofs.Ytcfdjoohbicomaa

end
section
namespace Go.Proofs.Ytcfdjoohbicomaa
open Go.RowKit Go.Own
namespace Cod

/-- a slice of bytes of one's own -/
def AB (ao : Option Addr) (n cap : Nat) (l : List UInt8) : Asn := ARow 5 1 (.slice ao n cap) n (l.map byteV)

theorem AB.view {w : World} {S : Nat → Prop} {ao : Option Addr} {n cap : Nat} {l : List UInt8} (h : (AB ao n cap l).holds S w) : View w S ao l := Row.view h
theorem AB.len {w : World} {S : Nat → Prop} {ao : Option Addr} {n cap : Nat} {l : List UInt8} (h : (AB ao n cap l).holds S w) : l.length = n ∧ n ≤ cap ∧ cap ≤ maxLen := by
  obtain ⟨ao', cap', hv, h1, h2, _⟩ := Row.form h
  simp only [Value.slice.injEq, true_and] at hv
  obtain ⟨rfl, rfl⟩ := hv
  exact ⟨by have := h.own.1; simpa using this, h1, h2⟩

section
variable {B : Nat} {w0 w : World} {Ps : List Asn} {p : Nat} {s : WS} {r : RS}

end

end Cod
end Go.Proofs.Ytcfdjoohbicomaa

end
section
namespace Go.Own
open Go.RowKit
/-- a slice that reads as these cells -/
def RdRow (w : World) (v : Value) (n : Nat) (xs : List Value) : Prop := ∃ ao cap, v = .slice ao n cap ∧ (n = 0 ∨ ∃ g, ao = some ⟨g, 0, none⟩ ∧ ∀ j u, xs[j]? = some u → w.cell? ⟨g, j, none⟩ = some u)
theorem cellLater' {W w : World} {a : Addr} {v : Value} (h : W.cell? a = some v) (hb : Below W.heap.size W w) : w.cell? a = some v := by
  have hlt : a.block < W.heap.size := by
    unfold World.cell? at h
    rcases Nat.lt_or_ge a.block W.heap.size with h1 | h1
    · exact h1
    · rw [Array.getElem?_eq_none h1] at h; simp at h
  unfold World.cell? at h ⊢
  rw [hb.block a.block hlt]
  exact h
theorem RdRow.later {W w : World} {v : Value} {n : Nat} {xs : List Value} (h : RdRow W v n xs) (hb : Below W.heap.size W w) : RdRow w v n xs := by
  obtain ⟨ao, cap, rfl, h⟩ := h
  refine ⟨ao, cap, rfl, ?_⟩
  rcases h with h | ⟨g, e, h⟩
  · exact .inl h
  · exact .inr ⟨g, e, fun j u hu => cellLater' (h j u hu) hb⟩
end Go.Own
namespace Go.Proofs.Ytcfdjoohbicomaa
open Go.RowKit Go.Own
namespace Tab
open Go.TabM
end Tab
end Go.Proofs.Ytcfdjoohbicomaa

end
section
namespace Go.Own
open Go.RowKit
/-- a slice that reads as these cells, wherever it begins -/
def RdWin (w : World) (v : Value) (n : Nat) (xs : List Value) : Prop := ∃ ao cap, v = .slice ao n cap ∧ (n = 0 ∨ ∃ g o, ao = some ⟨g, o, none⟩ ∧ ∀ j u, xs[j]? = some u → w.cell? ⟨g, o + j, none⟩ = some u)
theorem RdWin.later {W w : World} {v : Value} {n : Nat} {xs : List Value} (h : RdWin W v n xs) (hb : Below W.heap.size W w) : RdWin w v n xs := by
  obtain ⟨ao, cap, e, h⟩ := h
  refine ⟨ao, cap, e, ?_⟩
  rcases h with h | ⟨g, o, e2, hc⟩
  · exact .inl h
  · exact .inr ⟨g, o, e2, fun j u hu => cellLater' (hc j u hu) hb⟩
end Go.Own

end
section
namespace Go.Own
open Go.RowKit

def updL (L : Nat → Bool) (i : Nat) : Nat → Bool := fun j => if j = i then true else L j
section
variable {P : Program} {ops : Array Oper} {md : Region.Mode} {CL : (Nat → Bool) → World → Prop}
/-- what may be taken for granted when operation i comes up -/
structure Comes (ops : Array Oper) (md : Region.Mode) (i : Nat) (o : Oper) (L : Nat → Bool) : Prop where
  not : L i = false
  closed : ∀ (j : Nat) (oj : Oper), ops[j]? = some oj → L j = true → ∀ e ∈ oj.after, Region.binds md e = true → L e.on = true
  ready : ∀ e ∈ o.after, Region.binds md e = true → L e.on = true
inductive StepG (P : Program) (ops : Array Oper) (md : Region.Mode) (CL : (Nat → Bool) → World → Prop) (i : Nat) (o : Oper) (a : Act) : Act → Prop
  | skip (hw : Region.wanted o (yielded ops a.tmps) = false) (hq : ∀ L w, CL L w → Comes ops md i o L → CL (updL L i) w) : StepG P ops md CL i o a (a.put o.dst undef)
  | val (v : Value) (hw : Region.wanted o (yielded ops a.tmps) = true)
      (h : ∀ L a1 w, CL L w → Comes ops md i o L → (∀ t ∈ o.looksAt ops, a1.tmps.getD t undef = a.tmps.getD t undef) → ∀ (K : Act → World → Prop) (Q : Exit → Act → World → Prop), (∀ w', CL (updL L i) w' → K (a1.put o.dst v) w') → o.wp P a1 w K Q) : StepG P ops md CL i o a (a.put o.dst v)

structure InvG (md : Region.Mode) (ops : Array Oper) (CL : (Nat → Bool) → World → Prop) (a0 : Act) (S : Nat → Act) (listed : Array Bool) (a1 : Act) (w1 : World) : Prop where
  world : CL (fun j => listed.getD j false) w1
  defers : a1.defers = a0.defers
  size : a1.tmps.size = a0.tmps.size
  lsize : listed.size = ops.size
  closed : ∀ (j : Nat) (oj : Oper), ops[j]? = some oj → listed.getD j false = true → ∀ e ∈ oj.after, Region.binds md e = true → listed.getD e.on false = true
  done : ∀ (j : Nat) (oj : Oper) (d : Tmp), ops[j]? = some oj → listed.getD j false = true → oj.dst = some d → a1.tmps.getD d undef = (S (j + 1)).tmps.getD d undef
  rest : ∀ t, (∀ (j : Nat) (oj : Oper), ops[j]? = some oj → listed.getD j false = true → oj.dst ≠ some t) → a1.tmps.getD t undef = a0.tmps.getD t undef

theorem StepG.put {i : Nat} {o : Oper} {a a' : Act} (h : StepG P ops md CL i o a a') : ∃ v, a' = a.put o.dst v := by
  cases h with
  | skip => exact ⟨_, rfl⟩
  | val v => exact ⟨v, rfl⟩
theorem sizesG {a0 : Act} {S : Nat → Act} (hS0 : S 0 = a0) (hst : ∀ (k : Nat) (o : Oper), ops[k]? = some o → StepG P ops md CL k o (S k) (S (k + 1))) :
    ∀ k, k ≤ ops.size → (S k).tmps.size = a0.tmps.size ∧ (S k).defers = a0.defers
  | 0, _ => by rw [hS0]; exact ⟨rfl, rfl⟩
  | k + 1, hk => by
    have h := sizesG hS0 hst k (by omega)
    obtain ⟨v, g⟩ := (hst k ops[k] (Array.getElem?_eq_getElem (by omega))).put
    rw [g]
    exact ⟨(put_size _ _ _).trans h.1, (put_defers _ _ _).trans h.2⟩
theorem otherG {a0 : Act} {S : Nat → Act} (hS0 : S 0 = a0) (hst : ∀ (k : Nat) (o : Oper), ops[k]? = some o → StepG P ops md CL k o (S k) (S (k + 1)))
    (hin : ∀ (k : Nat) (o : Oper) (d : Tmp), ops[k]? = some o → o.dst = some d → d < a0.tmps.size) {t : Tmp} (m : Nat) :
    ∀ q, m + q ≤ ops.size → (∀ j oj, m ≤ j → j < m + q → ops[j]? = some oj → oj.dst ≠ some t) → (S (m + q)).tmps.getD t undef = (S m).tmps.getD t undef
  | 0, _, _ => rfl
  | q + 1, hq, hno => by
    have ih := otherG hS0 hst hin (t := t) m q (by omega) (fun j oj h1 h2 => hno j oj h1 (by omega))
    have hk : ops[m + q]? = some ops[m + q] := Array.getElem?_eq_getElem (by omega)
    have hs := sizesG hS0 hst (m + q) (by omega)
    obtain ⟨v, g⟩ := (hst (m + q) _ hk).put
    refine Eq.trans ?_ ih
    show (S (m + q + 1)).tmps.getD t undef = _
    rw [g]
    have hd := hno (m + q) _ (by omega) (by omega) hk
    cases hdd : (ops[m + q]).dst with
    | none => rfl
    | some d => rw [put_getD _ d t v (by rw [hs.1]; exact hin _ _ d hk hdd), if_neg (fun e => hd (by rw [hdd, e]))]

theorem wpAny_G {Q' : Exit → Act → World → Prop} {a0 : Act} {S : Nat → Act} (hS0 : S 0 = a0)
    (hst : ∀ (k : Nat) (o : Oper), ops[k]? = some o → StepG P ops md CL k o (S k) (S (k + 1)))
    (hin : ∀ (k : Nat) (o : Oper) (d : Tmp), ops[k]? = some o → o.dst = some d → d < a0.tmps.size)
    (hone : ∀ (j k : Nat) (x y : Oper) (d : Tmp), ops[j]? = some x → ops[k]? = some y → x.dst = some d → y.dst = some d → j = k)
    (hlex : ∀ (i : Nat) (oi : Oper), ops[i]? = some oi → (∀ e ∈ oi.after, Region.binds md e = true → e.on < i) ∧ ∀ j oj, i < j → ops[j]? = some oj → (∃ e ∈ oj.after, Region.binds md e = true ∧ e.on = i) ∨ oi.apart ops oj = true)
    (hfin : ∀ (a1 : Act) (w1 : World) (L : Nat → Bool), CL L w1 → (∀ i, i < ops.size → L i = true) → a1 = S ops.size → Q' .normal a1 w1) :
    ∀ (fuel : Nat) (listed : Array Bool) (a1 : Act) (w1 : World), (∃ s, (List.range ops.size).filter (fun i => !listed.getD i true) = s ∧ s.length = fuel) → InvG md ops CL a0 S listed a1 w1 → wpAny P md ops Q' fuel listed a1 w1 := by
  have hready : ∀ listed : Array Bool, listed.size = ops.size → Region.ready md ops listed = [] → ∀ i, i < ops.size → listed.getD i true = true := by
    intro listed hls hr i
    induction i using Nat.strongRecOn with
    | _ i ih =>
      intro hi
      rcases hb : listed.getD i true with _ | _
      · exfalso
        have : i ∈ Region.ready md ops listed := by
          refine mem_ready.2 ⟨hb, ops[i], Array.getElem?_eq_getElem hi, fun e he hbd => ?_⟩
          have h1 := (hlex i _ (Array.getElem?_eq_getElem hi)).1 e he hbd
          have h2 := ih e.on h1 (by omega)
          have h3 : e.on < listed.size := by omega
          simpa [h3] using h2
        rw [hr] at this
        cases this
      · rfl
  have hend : ∀ (fuel : Nat) (listed : Array Bool) (a1 : Act) (w1 : World), InvG md ops CL a0 S listed a1 w1 → (∀ i, i < ops.size → listed.getD i true = true) → wpAny P md ops Q' fuel listed a1 w1 := by
    intro fuel listed a1 w1 hI hall
    have hsz := sizesG hS0 hst ops.size (Nat.le_refl _)
    have hallf : ∀ i, i < ops.size → listed.getD i false = true := by
      intro i hi
      have h1 := hall i hi
      have h2 : i < listed.size := by rw [hI.lsize]; exact hi
      simpa [h2] using h1
    have hnr : Region.ready md ops listed = [] := by
      apply List.eq_nil_iff_forall_not_mem.2
      intro i hi
      obtain ⟨h0, o, ho, _⟩ := mem_ready.1 hi
      have := hall i (Array.getElem?_eq_some_iff.1 ho).1
      rw [this] at h0; cases h0
    refine wpAny_done hnr (hfin a1 w1 _ hI.world hallf ?_) fuel
    have hslot : ∀ t, a1.tmps.getD t undef = (S ops.size).tmps.getD t undef := by
      intro t
      by_cases hw : ∃ (j : Nat) (oj : Oper), ops[j]? = some oj ∧ oj.dst = some t
      · obtain ⟨j, oj, hj, hd⟩ := hw
        have hjl := (Array.getElem?_eq_some_iff.1 hj).1
        have h1 := hI.done j oj t hj (hallf j hjl) hd
        have h2 := otherG hS0 hst hin (t := t) (j + 1) (ops.size - (j + 1)) (by omega) (fun i oi h1 h2 hi hdi => by
          have := hone i j oi oj t hi hj hdi hd; omega)
        rw [show j + 1 + (ops.size - (j + 1)) = ops.size by omega] at h2
        exact h1.trans h2.symm
      · have h1 := hI.rest t (fun j oj hj hl hd => hw ⟨j, oj, hj, hd⟩)
        have h2 := otherG hS0 hst hin (t := t) 0 ops.size (by omega) (fun j oj _ h2 hj hd => hw ⟨j, oj, hj, hd⟩)
        rw [Nat.zero_add, hS0] at h2
        exact h1.trans h2.symm
    have hts : a1.tmps = (S ops.size).tmps := by
      apply Array.ext
      · rw [hI.size, hsz.1]
      · intro i h1 h2
        have := hslot i
        simpa [Array.getD, h1, h2] using this
    have hds : a1.defers = (S ops.size).defers := hI.defers.trans hsz.2.symm
    cases a1
    cases hS : S ops.size
    rw [hS] at hts hds
    simp only at hts hds
    subst hts hds
    rfl
  intro fuel
  induction fuel with
  | zero =>
    rintro listed a1 w1 ⟨s, hs, hlen⟩ hI
    refine hend 0 listed a1 w1 hI (fun i hi => ?_)
    have hnil : s = [] := List.eq_nil_of_length_eq_zero hlen
    subst hnil
    have := List.filter_eq_nil_iff.1 hs i (List.mem_range.2 (by omega))
    simpa using this
  | succ fuel ih =>
    rintro listed a1 w1 ⟨s, hs, hlen⟩ hI
    by_cases hdone : ∀ i, i < ops.size → listed.getD i true = true
    · exact hend (fuel + 1) listed a1 w1 hI hdone
    refine ⟨fun h0 => absurd (fun i hi => hready listed hI.lsize h0 i (by omega)) hdone, fun i hi => ?_⟩
    obtain ⟨hun, oi, hoi, hall⟩ := mem_ready.1 hi
    have hil := (Array.getElem?_eq_some_iff.1 hoi).1
    have hill : i < listed.size := by rw [hI.lsize]; exact hil
    have hunf : listed.getD i false = false := by simpa [hill] using hun
    have hcount : ∃ s', (List.range ops.size).filter (fun j => !(listed.setIfInBounds i true).getD j true) = s' ∧ s'.length = fuel := by
      refine ⟨_, rfl, ?_⟩
      have hn : (List.range ops.size).Nodup := List.nodup_range
      have e : (List.range ops.size).filter (fun j => !(listed.setIfInBounds i true).getD j true) = ((List.range ops.size).filter fun j => !listed.getD j true).erase i := by
        rw [List.Nodup.erase_eq_filter (List.Pairwise.filter _ hn), List.filter_filter]
        apply List.filter_congr
        intro j hj
        by_cases hji : j = i
        · subst hji; simp [hill]
        · rw [getD_set_ne true (Ne.symm hji)]; simp [hji]
      rw [e, List.length_erase_of_mem (List.mem_filter.2 ⟨List.mem_range.2 hil, by simp only [hun]; rfl⟩), hs, hlen]
      rfl
    have hlook : ∀ t ∈ oi.looksAt ops, a1.tmps.getD t undef = (S i).tmps.getD t undef := by
      intro t ht
      have hback : (∀ (j : Nat) (oj : Oper), ops[j]? = some oj → oj.dst = some t → i ≤ j) → (∀ (j : Nat) (oj : Oper), ops[j]? = some oj → oj.dst = some t → listed.getD j false = false) → a1.tmps.getD t undef = (S i).tmps.getD t undef := by
        intro h1 h2
        have h3 := otherG hS0 hst hin (t := t) 0 i (by omega) (fun j oj _ hj ho hd => by have := h1 j oj ho hd; omega)
        rw [Nat.zero_add, hS0] at h3
        refine Eq.trans (hI.rest t (fun j oj hj hl hd => ?_)) h3.symm
        rw [h2 j oj hj hd] at hl; cases hl
      by_cases hw : ∃ (j : Nat) (oj : Oper), ops[j]? = some oj ∧ oj.dst = some t
      · obtain ⟨j, oj, hj, hd⟩ := hw
        have huniq : ∀ (j' : Nat) (oj' : Oper), ops[j']? = some oj' → oj'.dst = some t → j' = j := fun j' oj' h1 h2 => hone j' j oj' oj t h1 hj h2 hd
        rcases Nat.lt_trichotomy j i with hji | hji | hji
        · rcases (hlex j oj hj).2 i oi hji hoi with ⟨e, he, hb, heq⟩ | hap
          · have hl : listed.getD j false = true := by rw [← heq]; exact hall e he hb
            have h1 := hI.done j oj t hj hl hd
            have h2 := otherG hS0 hst hin (t := t) (j + 1) (i - (j + 1)) (by omega) (fun j' oj' h1 _ h3 h4 => by have := huniq j' oj' h3 h4; omega)
            rw [show j + 1 + (i - (j + 1)) = i by omega] at h2
            exact h1.trans h2.symm
          · exact absurd ht ((Oper.apart_spec hap).1 t hd)
        · subst hji
          refine hback (fun j' oj' h1 h2 => by have := huniq j' oj' h1 h2; omega) (fun j' oj' h1 h2 => by rw [huniq j' oj' h1 h2]; exact hunf)
        · rcases (hlex i oi hoi).2 j oj hji hj with ⟨e, he, hb, heq⟩ | hap
          · refine hback (fun j' oj' h1 h2 => by have := huniq j' oj' h1 h2; omega) (fun j' oj' h1 h2 => ?_)
            rw [huniq j' oj' h1 h2]
            rcases hlj : listed.getD j false with _ | _
            · rfl
            · have := hI.closed j oj hj hlj e he hb
              rw [heq, hunf] at this; cases this
          · exact absurd ht ((Oper.apart_spec hap).2.2 t hd)
      · exact hback (fun j oj h1 h2 => absurd ⟨j, oj, h1, h2⟩ hw) (fun j oj h1 h2 => absurd ⟨j, oj, h1, h2⟩ hw)
    have hsz := sizesG hS0 hst i (by omega)
    have hsame : a1.tmps.size = (S i).tmps.size := hI.size.trans hsz.1.symm
    have hupd : (fun j => (listed.setIfInBounds i true).getD j false) = updL (fun j => listed.getD j false) i := by
      funext j
      unfold updL
      by_cases hji : j = i
      · subst hji; simp [hill]
      · rw [getD_set_ne false (Ne.symm hji), if_neg hji]
    have hcomes : Comes ops md i oi (fun j => listed.getD j false) := ⟨hunf, hI.closed, hall⟩
    have hnext : ∀ (v : Value) (w' : World), S (i + 1) = (S i).put oi.dst v → CL (updL (fun j => listed.getD j false) i) w' → InvG md ops CL a0 S (listed.setIfInBounds i true) (a1.put oi.dst v) w' := by
      intro v w' hv hb
      have hget : ∀ t, oi.dst ≠ some t → (a1.put oi.dst v).tmps.getD t undef = a1.tmps.getD t undef := by
        intro t ht
        cases hd : oi.dst with
        | none => rfl
        | some d => rw [put_getD a1 d t v (by rw [hI.size]; exact hin i oi d hoi hd), if_neg (fun e => ht (by rw [hd, e]))]
      have hlist : ∀ j, (listed.setIfInBounds i true).getD j false = true → j = i ∨ listed.getD j false = true := by
        intro j hj
        by_cases hji : j = i
        · exact .inl hji
        · rw [getD_set_ne false (Ne.symm hji)] at hj; exact .inr hj
      refine ⟨by rw [hupd]; exact hb, (put_defers _ _ _).trans hI.defers, (put_size _ _ _).trans hI.size, by simpa using hI.lsize, fun j oj hj hl e he hbd => ?_, fun j oj d hj hl hd => ?_, fun t ht => ?_⟩
      · rcases hlist j hl with rfl | hl
        · obtain rfl : oj = oi := by rw [hoi] at hj; simpa using hj.symm
          exact getD_set_true (hall e he hbd)
        · exact getD_set_true (hI.closed j oj hj hl e he hbd)
      · rcases hlist j hl with rfl | hl
        · obtain rfl : oj = oi := by rw [hoi] at hj; simpa using hj.symm
          rw [hv, hd, put_getD a1 d d v (by rw [hI.size]; exact hin j oj d hj hd), if_pos rfl, put_getD (S j) d d v (by rw [hsz.1]; exact hin j oj d hj hd), if_pos rfl]
        · have hne : oi.dst ≠ some d := by
            intro h
            have := hone i j oi oj d hoi hj h hd
            subst this
            rw [hunf] at hl; cases hl
          rw [hget d hne]
          exact hI.done j oj d hj hl hd
      · have hne : oi.dst ≠ some t := ht i oi hoi (by simp [hill])
        rw [hget t hne]
        exact hI.rest t (fun j oj hj hl => ht j oj hj (getD_set_true hl))
    have hwl : Region.wanted oi (yielded ops a1.tmps) = Region.wanted oi (yielded ops (S i).tmps) :=
      wanted_looks (I := []) (w := w1) (by unfold guardKnown; split; rfl; split <;> rfl) hsame (fun t ht => hlook t ht)
    have hstep := hst i oi hoi
    unfold wpOp
    simp only [hoi]
    generalize hSj : S (i + 1) = sj at *
    cases hstep with
    | skip hw hq =>
      rw [hwl, hw]
      simp only [Bool.false_eq_true, if_false]
      exact ih _ _ _ hcount (hnext undef w1 rfl (hq _ _ hI.world hcomes))
    | val v hw h =>
      rw [hwl, hw]
      simp only [if_true]
      exact .inl (h _ a1 w1 hI.world hcomes hlook _ _ (fun w' hu => ih _ _ _ hcount (hnext v w' rfl hu)))
end

/-! ### how far the chain is -/
/-- so many of the chain have been: what the world is like -/
def CLp (C : Nat → World → Prop) (E : List Nat) (L : Nat → Bool) (w : World) : Prop := C (E.filter L).length w
/-- x is y, or waits for it, some by way of others -/
def waitsGB (ops : Array Oper) : Nat → Nat → Nat → Bool
  | 0, x, y => x == y
  | f + 1, x, y => x == y || match ops[x]? with
    | some o => o.after.any fun e => Region.binds .any e && waitsGB ops f e.on y
    | none => false
theorem waitsGB_sound {ops : Array Oper} {L : Nat → Bool} (hcl : ∀ (j : Nat) (oj : Oper), ops[j]? = some oj → L j = true → ∀ e ∈ oj.after, Region.binds .any e = true → L e.on = true) :
    ∀ (f x y : Nat), waitsGB ops f x y = true → L x = true → L y = true
  | 0, x, y, h, hx => by
    have : x = y := by simpa [waitsGB] using h
    rw [← this]; exact hx
  | f + 1, x, y, h, hx => by
    unfold waitsGB at h
    rw [Bool.or_eq_true] at h
    rcases h with h | h
    · have : x = y := by simpa using h
      rw [← this]; exact hx
    · split at h
      · rename_i o ho
        obtain ⟨e, he, hb⟩ := Array.any_eq_true'.1 h
        rw [Bool.and_eq_true] at hb
        exact waitsGB_sound hcl f e.on y hb.2 (hcl x o ho hx e he hb.1)
      · cases h
/-- each of the chain waits for the one ahead of it -/
def chainB (ops : Array Oper) (E : List Nat) : Bool := decide E.Nodup && E.all (· < ops.size) && (List.range (E.length - 1)).all fun j => match ops[E.getD (j + 1) 0]? with
  | some o => o.after.any fun e => Region.binds .any e && waitsGB ops 12 e.on (E.getD j 0)
  | none => false
section
variable {P : Program} {ops : Array Oper} {C : Nat → World → Prop} {E : List Nat}
theorem chain_edge (hch : chainB ops E = true) (j : Nat) (hj : j + 1 < E.length) : ∃ o, ops[E.getD (j + 1) 0]? = some o ∧ ∃ e ∈ o.after, Region.binds .any e = true ∧ waitsGB ops 12 e.on (E.getD j 0) = true := by
  unfold chainB at hch
  simp only [Bool.and_eq_true] at hch
  have h := List.all_eq_true.1 hch.2 j (List.mem_range.2 (by omega))
  split at h
  · rename_i o ho
    obtain ⟨e, he, hb⟩ := Array.any_eq_true'.1 h
    rw [Bool.and_eq_true] at hb
    exact ⟨o, ho, e, he, hb.1, hb.2⟩
  · cases h
theorem chain_nodup (hch : chainB ops E = true) : E.Nodup := by
  unfold chainB at hch
  simp only [Bool.and_eq_true, decide_eq_true_eq] at hch
  exact hch.1.1
theorem chain_lt (hch : chainB ops E = true) : ∀ i ∈ E, i < ops.size := by
  unfold chainB at hch
  simp only [Bool.and_eq_true] at hch
  intro i hi
  simpa using List.all_eq_true.1 hch.1.2 i hi
theorem chain_down (hch : chainB ops E = true) {L : Nat → Bool} (hcl : ∀ (j : Nat) (oj : Oper), ops[j]? = some oj → L j = true → ∀ e ∈ oj.after, Region.binds .any e = true → L e.on = true) (j : Nat) :
    ∀ d, j + d < E.length → L (E.getD (j + d) 0) = true → L (E.getD j 0) = true
  | 0, _, h => h
  | d + 1, hl, h => by
    obtain ⟨o, ho, e, he, hb, heq⟩ := chain_edge hch (j + d) (by omega)
    have := waitsGB_sound hcl 12 _ _ heq (hcl _ o ho h e he hb)
    exact chain_down hch hcl j d (by omega) this
theorem filter_upd_not {L : Nat → Bool} {k : Nat} (hk : E.contains k = false) : E.filter (updL L k) = E.filter L := by
  apply List.filter_congr
  intro x hx
  unfold updL
  rw [if_neg]
  rintro rfl
  have : E.contains x = true := by simpa using hx
  rw [hk] at this
  cases this
theorem getD_of {j k : Nat} (h : E[j]? = some k) : E.getD j 0 = k := by rw [List.getD_eq_getElem?_getD, h]; rfl
theorem chain_phase (hch : chainB ops E = true) {L : Nat → Bool} {j k : Nat} {o : Oper} (hj : E[j]? = some k) (ho : ops[k]? = some o) (hc : Comes ops .any k o L) :
    (E.filter L).length = j ∧ (E.filter (updL L k)).length = j + 1 := by
  have hjl := (List.getElem?_eq_some_iff.1 hj).1
  have hk := getD_of hj
  have hbef : ∀ i, i < j → L (E.getD i 0) = true := by
    intro i hi
    obtain ⟨o', ho', e, he, hb, heq⟩ := chain_edge hch (j - 1) (by omega)
    rw [show j - 1 + 1 = j by omega, hk, ho] at ho'
    cases ho'
    have h1 := waitsGB_sound hc.closed 12 _ _ heq (hc.ready e he hb)
    have h2 := chain_down hch hc.closed i (j - 1 - i) (by omega)
    rw [show i + (j - 1 - i) = j - 1 by omega] at h2
    exact h2 h1
  have haft : ∀ i, j ≤ i → i < E.length → L (E.getD i 0) = false := by
    intro i hi hl
    rcases hb : L (E.getD i 0) with _ | _
    · rfl
    · have h2 := chain_down hch hc.closed j (i - j) (by omega)
      rw [show j + (i - j) = i by omega] at h2
      have := h2 hb
      rw [hk, hc.not] at this
      cases this
  have hmem : ∀ (l : List Nat) (x : Nat), x ∈ l → ∃ i, i < l.length ∧ l.getD i 0 = x := by
    intro l x hx
    obtain ⟨i, hi, rfl⟩ := List.mem_iff_getElem.1 hx
    exact ⟨i, hi, by rw [List.getD_eq_getElem?_getD, List.getElem?_eq_getElem hi]; rfl⟩
  have e1 : E.filter L = E.take j := by
    conv => lhs; rw [← List.take_append_drop j E]
    rw [List.filter_append, List.filter_eq_self.2, List.filter_eq_nil_iff.2, List.append_nil]
    · intro x hx
      obtain ⟨i, hi, rfl⟩ := hmem _ x hx
      rw [List.length_drop] at hi
      have : (E.drop j).getD i 0 = E.getD (j + i) 0 := by rw [List.getD_eq_getElem?_getD, List.getD_eq_getElem?_getD, List.getElem?_drop]
      rw [this, haft (j + i) (by omega) (by omega)]
      simp
    · intro x hx
      obtain ⟨i, hi, rfl⟩ := hmem _ x hx
      rw [List.length_take] at hi
      have : (E.take j).getD i 0 = E.getD i 0 := by rw [List.getD_eq_getElem?_getD, List.getD_eq_getElem?_getD, List.getElem?_take_of_lt (by omega)]
      rw [this]
      exact hbef i (by omega)
  refine ⟨by rw [e1, List.length_take]; omega, ?_⟩
  have e2 : E.filter (updL L k) = E.take (j + 1) := by
    conv => lhs; rw [← List.take_append_drop (j + 1) E]
    rw [List.filter_append, List.filter_eq_self.2, List.filter_eq_nil_iff.2, List.append_nil]
    · intro x hx
      obtain ⟨i, hi, rfl⟩ := hmem _ x hx
      rw [List.length_drop] at hi
      have : (E.drop (j + 1)).getD i 0 = E.getD (j + 1 + i) 0 := by rw [List.getD_eq_getElem?_getD, List.getD_eq_getElem?_getD, List.getElem?_drop]
      rw [this]
      unfold updL
      rw [if_neg, haft (j + 1 + i) (by omega) (by omega)]
      · simp
      · intro e
        have hn := chain_nodup hch
        rw [List.getD_eq_getElem?_getD, List.getElem?_eq_getElem (by omega)] at e
        have h1 : E[j + 1 + i]? = E[j]? := by rw [hj, List.getElem?_eq_getElem (by omega)]; simpa using e
        have := (List.getElem?_inj (by omega) hn).1 h1
        omega
    · intro x hx
      obtain ⟨i, hi, rfl⟩ := hmem _ x hx
      rw [List.length_take] at hi
      have : (E.take (j + 1)).getD i 0 = E.getD i 0 := by rw [List.getD_eq_getElem?_getD, List.getD_eq_getElem?_getD, List.getElem?_take_of_lt (by omega)]
      rw [this]
      unfold updL
      by_cases hij : i = j
      · rw [hij, hk, if_pos rfl]
      · split
        · rfl
        · exact hbef i (by omega)
  rw [e2, List.length_take]
  omega

/-! ### the walk -/
def wpGA (P : Program) (ops : Array Oper) (C : Nat → World → Prop) (E : List Nat) (Q : Act → World → Prop) : Nat → List Oper → Act → Prop
  | _, [], a => ∀ w, C E.length w → Q a w
  | k, o :: rest, a => ∃ a', StepG P ops .any (CLp C E) k o a a' ∧ wpGA P ops C E Q (k + 1) rest a'
theorem wpGA_path {Q : Act → World → Prop} : ∀ (l : List Oper) (k : Nat) (a : Act), wpGA P ops C E Q k l a →
    ∃ S : Nat → Act, S 0 = a ∧ (∀ i o, l[i]? = some o → StepG P ops .any (CLp C E) (k + i) o (S i) (S (i + 1))) ∧ ∀ w, C E.length w → Q (S l.length) w
  | [], k, a, h => ⟨fun _ => a, rfl, fun i o hi => by simp at hi, h⟩
  | o :: rest, k, a, ⟨a', h1, h2⟩ => by
    obtain ⟨S, g0, g1, g2⟩ := wpGA_path rest (k + 1) a' h2
    refine ⟨fun i => match i with | 0 => a | i + 1 => S i, rfl, fun i o' hi => ?_, fun w hw => g2 w hw⟩
    cases i with
    | zero =>
      obtain rfl : o = o' := by simpa using hi
      show StepG P ops .any (CLp C E) (k + 0) o a (S 0)
      rw [g0]; exact h1
    | succ i =>
      have := g1 i o' (by simpa using hi)
      rw [show k + (i + 1) = k + 1 + i by omega]
      exact this
/-- THE REGION -/
theorem wp_region_G {id : Nat} {Q : Exit → Act → World → Prop} {a : Act} {w : World} {l : List Oper} (hm : P.follows .mixedOrders = true) (hB : Region.lexB .any l.toArray = true) (hD : dstsB l a.tmps.size = true) (hch : chainB l.toArray E = true)
    (hC : C 0 { w with drawn := w.drawn + 1 }) (h : wpGA P l.toArray C E (fun a' w' => Q .normal a' w') 0 l a) : (Code.region id l.toArray true).wp P Q a w := by
  obtain ⟨S, hS0, hst, hfin⟩ := wpGA_path l 0 a h
  have hB' : Region.lexFrom .any l.toArray l.toArray.size 0 (Array.replicate l.toArray.size false) = true := by
    simp only [Region.lexB, Bool.and_eq_true] at hB; exact hB.2
  have hf : ∀ j, (Array.replicate l.toArray.size false).getD j false = true → False := by
    intro j hl
    by_cases hi : j < l.length <;> simp [hi] at hl
  refine wp_region_any hm ?_
  refine wpAny_G (P := P) (ops := l.toArray) (CL := CLp C E) (md := .any) (a0 := a) (S := S) hS0 (fun k o hk => by have := hst k o (by simpa using hk); rw [Nat.zero_add] at this; exact this)
    (fun k o d hk hd => dsts_lt hD (k := k) (by simpa using hk) hd) (fun j k x y d hj hk hx hy => dsts_one hD (j := j) (k := k) (by simpa using hj) (by simpa using hk) hx hy)
    (fun i oi hi => lexFrom_free _ 0 _ hB' (by simp) (fun i => ?_) (by simp) i oi (Nat.zero_le _) hi) (fun a1 w1 L hcl hall ha => ?_) _ _ _ _ ⟨_, rfl, ?_⟩ ⟨?_, rfl, rfl, by simp, fun j oj hj hl => (hf j hl).elim, fun j oj d hj hl => (hf j hl).elim, fun t _ => rfl⟩
  · by_cases hi : i < l.length
    · simp [hi]
    · simp [hi]; omega
  · have e : E.filter L = E := List.filter_eq_self.2 (fun x hx => hall x (chain_lt hch x hx))
    unfold CLp at hcl
    rw [e] at hcl
    have := hfin w1 hcl
    rw [ha]
    simpa using this
  · rw [count_none]; simp
  · unfold CLp
    have e : E.filter (fun j => (Array.replicate l.toArray.size false).getD j false) = [] := List.filter_eq_nil_iff.2 (fun x _ h => hf x h)
    rw [e]
    exact hC

variable {Q : Act → World → Prop} {o : Oper} {rest : List Oper} {k : Nat} {fs : List Value} {ds : List Deferred}
/-- the walk over a list -/
def wpG (P : Program) (ops : Array Oper) (C : Nat → World → Prop) (E : List Nat) (Q : Act → World → Prop) (ds : List Deferred) (k : Nat) (l : List Oper) (fs : List Value) : Prop := wpGA P ops C E Q k l (mkA fs ds)
theorem wp_chain_list {id : Nat} {Q : Exit → Act → World → Prop} {w : World} {l : List Oper} {fs : List Value} {ds : List Deferred} (E : List Nat) (C : Nat → World → Prop) (hm : P.follows .mixedOrders = true) (hB : Region.lexB .any l.toArray = true) (hD : dstsB l fs.length = true) (hch : chainB l.toArray E = true)
    (hC : C 0 { w with drawn := w.drawn + 1 }) (h : wpG P l.toArray C E (fun a' w' => Q .normal a' w') ds 0 l fs) : (Code.region id l.toArray true).wp P Q ⟨fs.toArray, ds⟩ w :=
  wp_region_G hm hB (by simpa using hD) hch hC h
theorem wpG_run (v : Value) (hE : E.contains k = false) (hs : notSelect o = true) (hw : wantedL ops fs o = true) (hrun : ∀ j w, C j w → (execOp (ev fs) o).run P w = .ok (.value v) w) (c : wpG P ops C E Q ds (k + 1) rest (setL fs o.dst v)) : wpG P ops C E Q ds k (o :: rest) fs :=
  ⟨_, .val v (wantedL_eq.trans hw) (fun L a1 w hC _ ht K Q' hK => by
    have e : execOp a1.eval o = execOp (mkA fs ds).eval o := execOp_congr o (fun cs b h => by simp [notSelect, h] at hs) fun x hx => eval_looks ht x hx
    unfold Oper.wp
    rw [e, mkA_evalF, hrun _ w hC]
    exact hK _ (by unfold CLp at *; rw [filter_upd_not hE]; exact hC)), by rw [mkA_put]; exact c⟩
theorem wpG_run1 {x : Operand} (vx v : Value) (hE : E.contains k = false) (hx : ev fs x = vx) (hs : notSelect o = true) (hw : wantedL ops fs o = true) (hrun : ∀ j w (ρ : Operand → Value), C j w → ρ x = vx → (∀ c, ρ (.const c) = c) → (execOp ρ o).run P w = .ok (.value v) w) (c : wpG P ops C E Q ds (k + 1) rest (setL fs o.dst v)) : wpG P ops C E Q ds k (o :: rest) fs :=
  wpG_run v hE hs hw (fun j w hC => hrun j w _ hC hx fun _ => rfl) c
theorem wpG_run2 {x y : Operand} (vx vy v : Value) (hE : E.contains k = false) (hx : ev fs x = vx) (hy : ev fs y = vy) (hs : notSelect o = true) (hw : wantedL ops fs o = true) (hrun : ∀ j w (ρ : Operand → Value), C j w → ρ x = vx → ρ y = vy → (∀ c, ρ (.const c) = c) → (execOp ρ o).run P w = .ok (.value v) w) (c : wpG P ops C E Q ds (k + 1) rest (setL fs o.dst v)) : wpG P ops C E Q ds k (o :: rest) fs :=
  wpG_run v hE hs hw (fun j w hC => hrun j w _ hC hx hy fun _ => rfl) c
theorem wpG_move {x : Operand} (v : Value) (ho : o.op = .move x) (hE : E.contains k = false) (hv : ev fs x = v) (hw : wantedL ops fs o = true) (c : wpG P ops C E Q ds (k + 1) rest (setL fs o.dst v)) : wpG P ops C E Q ds k (o :: rest) fs :=
  wpG_run v hE (by simp [notSelect, ho]) hw (fun j w _ => by simp only [execOp, ho, hv]; rfl) c
theorem wpG_assign {x : Operand} (v : Value) (ho : o.op = .assign x) (hE : E.contains k = false) (hv : ev fs x = v) (hw : wantedL ops fs o = true) (c : wpG P ops C E Q ds (k + 1) rest (setL fs o.dst v)) : wpG P ops C E Q ds k (o :: rest) fs :=
  wpG_run v hE (by simp [notSelect, ho]) hw (fun j w _ => by simp only [execOp, ho, hv]; rfl) c
theorem wpG_end (h : ∀ w, C E.length w → Q ⟨fs.toArray, ds⟩ w) : wpG P ops C E Q ds k [] fs := h
end
end Go.Own

end
section
namespace Go.Own
open Go.RowKit
section
variable {P : Program} {ops : Array Oper} {E : List Nat} {C : Nat → World → Prop} {Q : Act → World → Prop} {ds : List Deferred} {k : Nat} {o : Oper} {rest : List Oper} {fs : List Value}
/-- the m-th of the chain waits for operation k -/
def aheadB (ops : Array Oper) (E : List Nat) (k m : Nat) : Bool := decide (m < E.length) && waitsGB ops 30 (E.getD m 0) k
theorem chain_most (hch : chainB ops E = true) {L : Nat → Bool} {m k : Nat} {o : Oper} (hb : aheadB ops E k m = true) (hc : Comes ops .any k o L) : (E.filter L).length ≤ m := by
  unfold aheadB at hb
  simp only [Bool.and_eq_true, decide_eq_true_eq] at hb
  obtain ⟨hm, hb⟩ := hb
  have hno : ∀ i, m ≤ i → i < E.length → L (E.getD i 0) = false := by
    intro i hi hil
    by_cases h : L (E.getD i 0) = true
    · have h2 := chain_down hch hc.closed m (i - m) (by omega) (by rw [show m + (i - m) = i by omega]; exact h)
      have h3 := waitsGB_sound hc.closed 30 _ _ hb h2
      rw [hc.not] at h3
      cases h3
    · simpa using h
  have e2 : E.filter L = (E.take m).filter L ++ (E.drop m).filter L := by
    conv => lhs; rw [← List.take_append_drop m E]
    rw [List.filter_append]
  have e1 : (E.drop m).filter L = [] := by
    apply List.filter_eq_nil_iff.2
    intro x hx
    obtain ⟨i, hi, rfl⟩ := List.mem_iff_getElem.1 hx
    rw [List.length_drop] at hi
    have := hno (m + i) (by omega) (by omega)
    rw [List.getD_eq_getElem?_getD, List.getElem?_eq_getElem (by omega)] at this
    rw [List.getElem_drop]
    simpa using this
  rw [e2, e1, List.append_nil]
  exact Nat.le_trans (List.length_filter_le _ _) (by rw [List.length_take]; omega)
/-- a read ahead of the m-th of the chain -/
theorem wpG_runU (m : Nat) (v : Value) (hch : chainB ops E = true) (hb : aheadB ops E k m = true) (hE : E.contains k = false) (hs : notSelect o = true) (hw : wantedL ops fs o = true) (hrun : ∀ j w, j ≤ m → C j w → (execOp (ev fs) o).run P w = .ok (.value v) w) (c : wpG P ops C E Q ds (k + 1) rest (setL fs o.dst v)) : wpG P ops C E Q ds k (o :: rest) fs :=
  ⟨_, .val v (wantedL_eq.trans hw) (fun L a1 w hC hcm ht K Q' hK => by
    have e : execOp a1.eval o = execOp (mkA fs ds).eval o := execOp_congr o (fun cs b h => by simp [notSelect, h] at hs) fun x hx => eval_looks ht x hx
    unfold Oper.wp
    rw [e, mkA_evalF, hrun _ w (chain_most hch hb hcm) hC]
    exact hK _ (by unfold CLp at *; rw [filter_upd_not hE]; exact hC)), by rw [mkA_put]; exact c⟩
/-- what an operation leaves in its slot -/
def leaves (v : Value) (n : Next) : Prop := n = .value v ∨ (n = .skip ∧ v = undef)
/-- operation number j of the chain -/
theorem wpG_op (j : Nat) (v : Value) (n : Next) (hn : leaves v n) (hch : chainB ops E = true) (hk : ops[k]? = some o) (hj : E[j]? = some k) (hs : notSelect o = true) (hw : wantedL ops fs o = true)
    (hrun : ∀ w, C j w → ∃ w', (execOp (ev fs) o).run P w = .ok n w' ∧ C (j + 1) w') (c : wpG P ops C E Q ds (k + 1) rest (setL fs o.dst v)) : wpG P ops C E Q ds k (o :: rest) fs :=
  ⟨_, .val v (wantedL_eq.trans hw) (fun L a1 w hC hcm ht K Q' hK => by
    have e : execOp a1.eval o = execOp (mkA fs ds).eval o := execOp_congr o (fun cs b h => by simp [notSelect, h] at hs) fun x hx => eval_looks ht x hx
    obtain ⟨p1, p2⟩ := chain_phase hch hj hk hcm
    unfold CLp at hC
    rw [p1] at hC
    obtain ⟨w', hr, hC'⟩ := hrun w hC
    unfold Oper.wp
    rw [e, mkA_evalF, hr]
    have hfin := hK w' (by unfold CLp; rw [p2]; exact hC')
    rcases hn with rfl | ⟨rfl, rfl⟩
    · exact hfin
    · exact hfin), by rw [mkA_put]; exact c⟩
end
end Go.Own

end
section
namespace Go.Own
open Go.RowKit
theorem storeAt_E {P : Program} {o : Oper} {x y : Tmp} {t : TypeId} (ho : o.op = .store t (.tmp x) (.tmp y)) {ρ : Operand → Value} {w w' : World} {a v : Value} (h0 : ρ (.tmp x) = a) (h1 : ρ (.tmp y) = v) (hrun : (Instr.storeAt t a v).run P w = .ok () w') : (execOp ρ o).run P w = .ok .skip w' := by
  unfold execOp
  simp [ho, h0, h1, hrun, Result.andThen]
end Go.Own

end
section
namespace Go.Proofs.Ytcfdjoohbicomaa
open Go.RowKit Go.Own
namespace Sto
open Go.StoM Byt
open Rec (keyC keyC_len)
abbrev ptr (p : Nat) : Value := .pointer (some ⟨p, 0, none⟩)
abbrev errS (n : Nat) : Value := .int .i64 (n : Int)
abbrev iS (x : Int) : Value := .int .i64 x
abbrev i64S (x : Int) : Prop := -9223372036854775808 ≤ x ∧ x ≤ 9223372036854775807
structure FitK (k : Ky) : Prop where
  sum : k.sum.length = 32
  n : k.n < 4294967296
structure FitP (p : Pl) : Prop where
  seg : i64S p.seg
  page : i64S p.page
  pages : i64S p.pages
structure Fit (c : Ch) : Prop where
  key : FitK c.key
  place : FitP c.place
  refs : i64S c.refs
def kC (k : Ky) : List Value := keyC k.sum k.n
def kV (k : Ky) : Value := .agg (kC k).toArray
def pC (p : Pl) : List Value := [iS p.seg, iS p.page, iS p.pages]
def pV (p : Pl) : Value := .agg (pC p).toArray
def chC (c : Ch) : List Value := kC c.key ++ [iS c.place.seg, iS c.place.page, iS c.place.pages, iS c.refs]
def chV (c : Ch) : Value := .agg (chC c).toArray
def zeroCh : Ch := ⟨⟨RecM.zsum, 0⟩, ⟨0, 0, 0⟩, 0⟩
theorem kC_len {k : Ky} (h : FitK k) : (kC k).length = 33 := keyC_len _ _ h.sum
theorem chC_len {c : Ch} (h : FitK c.key) : (chC c).length = 37 := by unfold chC; simp [kC_len h]
theorem zero_fit : Fit zeroCh := ⟨⟨by simp [zeroCh, RecM.zsum], by decide⟩, ⟨by decide, by decide, by decide⟩, by decide⟩
theorem kC_one (k : Ky) : ∀ u ∈ kC k, u.oneCell' = true := by
  intro u hu
  unfold kC keyC at hu
  simp only [List.mem_append, List.mem_cons, List.not_mem_nil, or_false] at hu
  rcases hu with h | rfl
  · exact byteV_one _ u h
  · rfl
theorem chC_one (c : Ch) : ∀ u ∈ chC c, u.oneCell' = true := by
  intro u hu
  unfold chC at hu
  simp only [List.mem_append, List.mem_cons, List.not_mem_nil, or_false] at hu
  rcases hu with h | rfl | rfl | rfl | rfl
  · exact kC_one _ u h
  all_goals rfl
theorem chC_key {c : Ch} (h : FitK c.key) (j : Nat) (u : Value) (hu : (kC c.key)[j]? = some u) : (chC c)[j]? = some u := by
  unfold chC
  rw [List.getElem?_append_left (List.getElem?_eq_some_iff.1 hu).1]
  exact hu
theorem chC_rest {c : Ch} (h : FitK c.key) (j : Nat) : (chC c)[33 + j]? = [iS c.place.seg, iS c.place.page, iS c.place.pages, iS c.refs][j]? := by
  unfold chC
  rw [List.getElem?_append_right (by rw [kC_len h]; omega), kC_len h]
  congr 1
  omega
theorem kC_inj {a b : Ky} (ha : FitK a) (hb : FitK b) (h : kC a = kC b) : a = b := by
  unfold kC keyC at h
  have hl : (a.sum.map byteV).length = (b.sum.map byteV).length := by simp [ha.sum, hb.sum]
  obtain ⟨h1, h2⟩ := List.append_inj h hl
  have e1 : a.sum = b.sum := (List.map_inj_right (f := byteV) (fun x y h => by
    unfold byteV at h
    simp only [Value.int.injEq, true_and] at h
    exact UInt8.toNat_inj.1 (by omega))).1 h1
  have e2 : a.n = b.n := by
    have : (a.n : Int) = b.n := by simpa using h2
    omega
  cases a; cases b; simp only at e1 e2; rw [e1, e2]
theorem info_ch (cs : List Value) (h : cs.length = 37) : (Try.prog.info? 51).map (·.size) = some cs.length := by
  have h0 : (Try.prog.info? 51).map (fun i => i.size) = some 37 := by kernel_rfl
  rw [h]; exact h0
theorem info_chA (cs : List Value) (h : cs.length = 37) : (Try.prog.info? 51).map (·.size) = some cs.toArray.size := by rw [List.size_toArray]; exact info_ch cs h
theorem zero_ch : (Try.prog.info? 51).bind (·.zero) = some (.agg (chC zeroCh).toArray) := by kernel_rfl
theorem boxy_ch : Boxy Try.prog 51 37 := boxy_of (chC zeroCh).toArray zero_ch (by kernel_rfl) (by kernel_rfl)
theorem zeroValue_ch (w : World) : (zeroValue 51).run Try.prog w = .ok (chV zeroCh) w := by kernel_rfl
/-- a chunk is loaded, whatever the guard -/
theorem load_ch (cs : List Value) (hl : cs.length = 37) {o : Oper} {x : Tmp} (ho : o.op = .load 51 (.tmp x)) {b k : Nat} (ρ : Operand → Value) {w : World} (hr : w.rangeAt b k cs) (h0 : ρ (.tmp x) = .pointer (some ⟨b, k, none⟩)) : (execOp ρ o).run Try.prog w = .ok (.value (.agg cs.toArray)) w := by
  have := run_loadAt_mid (P := Try.prog) w b k 51 cs _ hr Try.underlying51 rfl (info_ch cs hl)
  unfold execOp
  simp only [ho, h0, Sem.run_bind, this, Result.andThen_ok, Sem.run_pure]
/-! ### equality -/
end Sto
end Go.Proofs.Ytcfdjoohbicomaa

end
section
namespace Go.StoM
/-- put in the place of the one with the same key, if there is one -/
def putS (l : List Ch) (c : Ch) : List Ch := if isAt l c.key then l.set (posK c.key l) c else putAt l (posK c.key l) c
theorem mem_at {l : List Ch} (hs : Sorted l) {c : Ch} (hc : c ∈ l) : isAt l c.key = true ∧ atS l c.key = c ∧ l[posK c.key l]? = some c := by
  obtain ⟨i, hi⟩ := List.mem_iff_getElem?.1 hc
  have hp : posK c.key l = i := by
    rcases Nat.lt_trichotomy (posK c.key l) i with h | h | h
    · exfalso
      have hlt : posK c.key l < l.length := by have := (List.getElem?_eq_some_iff.1 hi).1; omega
      have h0 := List.getElem?_eq_getElem hlt
      have h1 := pos_behind c.key l hs _ _ h0 (Nat.le_refl _)
      have h2 := (List.pairwise_iff_getElem.1 hs) (posK c.key l) i hlt (List.getElem?_eq_some_iff.1 hi).1 h
      rw [(List.getElem?_eq_some_iff.1 hi).2, h1] at h2
      cases h2
    · exact h
    · have := pos_ahead c.key l i c hi h
      rw [less_irrefl] at this
      cases this
  have h1 : l[posK c.key l]? = some c := by rw [hp]; exact hi
  refine ⟨?_, ?_, h1⟩
  · unfold isAt; rw [h1]; simp
  · unfold atS; rw [List.getD_eq_getElem?_getD, h1]; rfl
theorem at_mem {l : List Ch} {k : Ky} (h : isAt l k = true) : atS l k ∈ l ∧ (atS l k).key = k := by
  obtain ⟨_, h2, h3⟩ := at_some h
  exact ⟨List.mem_of_getElem? h2, h3⟩
theorem at_iff {l : List Ch} (hs : Sorted l) {k : Ky} : isAt l k = true ↔ ∃ c ∈ l, c.key = k :=
  ⟨fun h => ⟨_, (at_mem h).1, (at_mem h).2⟩, fun ⟨c, hc, e⟩ => by rw [← e]; exact (mem_at hs hc).1⟩
theorem sorted_nodup {l : List Ch} (hs : Sorted l) : l.Nodup := by
  unfold List.Nodup
  refine List.Pairwise.imp (fun {a b} h e => ?_) hs
  subst e
  rw [less_irrefl] at h
  cases h
theorem mem_putAt {l : List Ch} {i : Nat} {c d : Ch} : d ∈ putAt l i c ↔ d ∈ l ∨ d = c := by
  unfold putAt
  rw [List.mem_append, List.mem_cons]
  constructor
  · rintro (h | h | h)
    · exact .inl (List.mem_of_mem_take h)
    · exact .inr h
    · exact .inl (List.mem_of_mem_drop h)
  · rintro (h | h)
    · rw [← List.take_append_drop i l, List.mem_append] at h
      rcases h with h | h
      · exact .inl h
      · exact .inr (.inr h)
    · exact .inr (.inl h)
theorem putAt_len (l : List Ch) (i : Nat) (c : Ch) (h : i ≤ l.length) : (putAt l i c).length = l.length + 1 := by
  unfold putAt
  simp
  omega
theorem mem_putS {l : List Ch} (hs : Sorted l) {c d : Ch} : d ∈ putS l c ↔ (d ∈ l ∧ d.key ≠ c.key) ∨ d = c := by
  unfold putS
  by_cases h : isAt l c.key = true
  · rw [if_pos h]
    obtain ⟨hlt, h2, h3⟩ := at_some h
    constructor
    · intro hd
      obtain ⟨i, hi⟩ := List.mem_iff_getElem?.1 hd
      by_cases hip : posK c.key l = i
      · subst hip
        rw [List.getElem?_set_self hlt] at hi
        exact .inr (Option.some.inj hi).symm
      · rw [List.getElem?_set_ne hip] at hi
        have hm := List.mem_of_getElem? hi
        refine .inl ⟨hm, fun e => hip ?_⟩
        have h5 := (mem_at hs hm).2.2
        rw [e] at h5
        have hn := sorted_nodup hs
        have hil := (List.getElem?_eq_some_iff.1 hi).1
        rcases Nat.lt_trichotomy (posK c.key l) i with g | g | g
        · have := (List.pairwise_iff_getElem.1 hs) _ _ hlt hil g
          rw [(List.getElem?_eq_some_iff.1 hi).2, (List.getElem?_eq_some_iff.1 h5).2, less_irrefl] at this
          cases this
        · exact g
        · have := (List.pairwise_iff_getElem.1 hs) _ _ hil hlt g
          rw [(List.getElem?_eq_some_iff.1 hi).2, (List.getElem?_eq_some_iff.1 h5).2, less_irrefl] at this
          cases this
    · rintro (⟨hm, hne⟩ | rfl)
      · obtain ⟨i, hi⟩ := List.mem_iff_getElem?.1 hm
        have : posK c.key l ≠ i := by
          intro e
          rw [← e, h2] at hi
          rw [← Option.some.inj hi, h3] at hne
          exact hne rfl
        exact List.mem_of_getElem? (by rw [List.getElem?_set_ne this]; exact hi)
      · exact List.mem_of_getElem? (List.getElem?_set_self hlt)
  · rw [if_neg h, mem_putAt]
    constructor
    · rintro (hm | hm)
      · refine .inl ⟨hm, fun e => h ?_⟩
        rw [← e]; exact (mem_at hs hm).1
      · exact .inr hm
    · rintro (hm | hm)
      · exact .inl hm.1
      · exact .inr hm
theorem putS_len (l : List Ch) (c : Ch) : (putS l c).length = if isAt l c.key then l.length else l.length + 1 := by
  unfold putS
  split
  · simp
  · exact putAt_len _ _ _ (pos_le _ _)
theorem sorted_putS {l : List Ch} (hs : Sorted l) (c : Ch) : Sorted (putS l c) := by
  unfold putS
  split
  · rename_i h
    obtain ⟨_, h2, h3⟩ := at_some h
    exact sorted_set hs c h2 h3.symm
  · rename_i h
    exact sorted_put hs c (by simpa using h)
theorem mem_erase {l : List Ch} (hs : Sorted l) {k : Ky} (h : isAt l k = true) {d : Ch} : d ∈ l.eraseIdx (posK k l) ↔ d ∈ l ∧ d.key ≠ k := by
  obtain ⟨hlt, h2, h3⟩ := at_some h
  rw [List.mem_eraseIdx_iff_getElem?]
  constructor
  · rintro ⟨i, hne, hi⟩
    have hm := List.mem_of_getElem? hi
    refine ⟨hm, fun e => hne ?_⟩
    have h5 := (mem_at hs hm).2.2
    rw [e] at h5
    have hil := (List.getElem?_eq_some_iff.1 hi).1
    rcases Nat.lt_trichotomy (posK k l) i with g | g | g
    · have := (List.pairwise_iff_getElem.1 hs) _ _ hlt hil g
      rw [(List.getElem?_eq_some_iff.1 hi).2, (List.getElem?_eq_some_iff.1 h5).2, less_irrefl] at this
      cases this
    · exact g.symm
    · have := (List.pairwise_iff_getElem.1 hs) _ _ hil hlt g
      rw [(List.getElem?_eq_some_iff.1 hi).2, (List.getElem?_eq_some_iff.1 h5).2, less_irrefl] at this
      cases this
  · rintro ⟨hm, hne⟩
    obtain ⟨i, hi⟩ := List.mem_iff_getElem?.1 hm
    refine ⟨i, fun e => hne ?_, hi⟩
    rw [e, h2] at hi
    rw [← Option.some.inj hi, h3]
theorem sorted_erase {l : List Ch} (hs : Sorted l) (i : Nat) : Sorted (l.eraseIdx i) := hs.sublist (List.eraseIdx_sublist _ _)
/-- a store's chunks, as they may be -/
theorem putS_act {l : List Ch} {k : Ky} (h : isAt l k = true) (c : Ch) (hc : c.key = k) : putS l c = l.set (posK k l) c := by
  unfold putS
  rw [hc, if_pos h]
theorem putS_new {l : List Ch} {c : Ch} (h : isAt l c.key = false) : putS l c = putAt l (posK c.key l) c := by
  unfold putS
  rw [h]
  rfl
end Go.StoM

end
section
namespace Go.Own
open Go.RowKit Go.Maps

open Classical in
noncomputable def putK {α : Type} (g : Lit → α) (kl : Lit) (x : α) : Lit → α := fun l => if l = kl then x else g l
theorem putK_same {α : Type} {g : Lit → α} {kl : Lit} {x : α} : putK g kl x kl = x := by unfold putK; rw [if_pos rfl]
theorem putK_other {α : Type} {g : Lit → α} {kl l : Lit} {x : α} (h : l ≠ kl) : putK g kl x l = g l := by unfold putK; rw [if_neg h]
def rawV : Value → Option (DataW Value × List MemPlace) := fun v => some (.held v, [])
/-- block b is a map of at most n entries; g: the value at a key; z: where there is none -/
def AMap (P : Program) (kt : TypeId) (z : Value) (b n : Nat) (g : Lit → Value) : Asn where
  holds S w := (∃ D : DataW Value, w.ownsMap P kt rawV b n D ∧ ∀ kl, D.atKey kl (.held z) = .held (g kl)) ∧ ∀ k, S k ↔ k = b
  keep h gs hd := by
    obtain ⟨⟨D, ⟨es, clock, hb, r⟩, h1⟩, h5⟩ := h
    exact ⟨⟨D, ⟨es, clock, (gs.block _ (lt_of_block hb) (hd _ ((h5 _).2 rfl))).trans hb, r⟩, h1⟩, h5⟩
  lt h k hk := by
    obtain ⟨⟨D, hm, h1⟩, h5⟩ := h
    rw [(h5 k).1 hk]
    exact hm.lt
section
variable {P : Program} {kt mt vt : TypeId} {z : Value} {B : Nat} {w0 w : World} {Ps : List Asn} {b n : Nat} {g : Lit → Value}
theorem St.mapMake (H : St B w0 w Ps) : ∃ w' b, (Instr.makeMap mt none).run P w = .ok (.map (some b)) w' ∧ St B w0 w' (AMap P kt z b 0 (fun _ => z) :: Ps) := by
  refine ⟨_, w.heap.size, run_makeMap mt w, H.new (S' := fun k => k = w.heap.size) (AMap P kt z _ 0 _) ⟨⟨.map [], World.ownsMap_made w _ _ _, fun kl => rfl⟩, fun k => Iff.rfl⟩ (((Step.refl (fun _ => False) w).alloc (.map #[] 0)).to (fun k hk => .inr (Nat.le_of_eq hk.symm)))⟩
theorem St.mapLook (H : St B w0 w Ps) (i : Nat) (hi : Ps[i]? = some (AMap P kt z b n g)) (K : Keyed P kt) (hmt : P.underlying mt = some (.map kt vt)) (hz : ∀ w, (zeroValue vt).run P w = .ok z w) {kv : Value} {kl : Lit} (hk : keyOf P kt kv = some kl) :
    (Instr.lookup mt (.map (some b)) kv false).run P w = .ok (g kl) w := by
  obtain ⟨S, ⟨⟨D, hm, h1⟩, _⟩, _⟩ := H.at i hi
  obtain ⟨v, ps, hrun, hv⟩ := hm.lookup K hmt (hz w) (zd := .held z) (zp := []) rfl hk
  rw [h1] at hv
  simp only [rawV, Option.some.injEq, Prod.mk.injEq, DataW.held.injEq] at hv
  rw [hrun, hv.1]
theorem St.mapPut (H : St B w0 w Ps) (i : Nat) (hi : Ps[i]? = some (AMap P kt z b n g)) (K : Keyed P kt) (hmt : P.underlying mt = some (.map kt vt)) (hn : n < 1000000000) {kv : Value} {kl : Lit} (hk : keyOf P kt kv = some kl) (v : Value) :
    ∃ w', (Instr.mapUpdate mt (.map (some b)) kv v).run P w = .ok () w' ∧ St B w0 w' (Ps.set i (AMap P kt z b (n + 1) (putK g kl v))) := by
  obtain ⟨S, ⟨⟨D, hm, h1⟩, h5⟩, _, put⟩ := H.at i hi
  obtain ⟨w2, hrun2, hm2, g2⟩ := hm.update K hmt (by unfold maxLen; omega) hk (val := v) (d := .held v) (ps := []) rfl
  have hD : IsMap D := by obtain ⟨es, clock, _, _, _, hD⟩ := hm; exact ⟨_, hD⟩
  refine ⟨w2, hrun2, put (fun k => k = b) w2 (AMap P kt z b (n + 1) _) ⟨⟨_, hm2, fun l => ?_⟩, fun k => Iff.rfl⟩ ?_⟩
  · by_cases hl : l = kl
    · subst hl
      rw [putK_same]
      exact atKey_put_same hD (K.key hk) _ _
    · rw [putK_other hl, atKey_put_other hl]
      exact h1 l
  · refine ⟨g2.os, g2.tape, g2.output, g2.size, fun k hk hn => g2.block k hk (fun e => hn ((h5 k).2 (by cases e; rfl))), fun k hk => .inl ((h5 k).2 hk)⟩
end
/-- a look-up, as an operation -/
theorem look_exec {P : Program} {o : Oper} {x y : Tmp} {mt : TypeId} (ho : o.op = .lookup mt (.tmp x) (.tmp y) false) {m kv v : Value} {w : World} (hrun : (Instr.lookup mt m kv false).run P w = .ok v w) (ρ : Operand → Value) (h0 : ρ (.tmp x) = m) (h1 : ρ (.tmp y) = kv) : (execOp ρ o).run P w = .ok (.value v) w := by
  simp [execOp, ho, h0, h1, hrun, go_sem]
end Go.Own

end
section
namespace Go.Proofs.Ytcfdjoohbicomaa
open Go.RowKit Go.Own Go.Maps
namespace Sto
open Go.StoM Byt
open Rec (keyC keyC_len)
theorem laidOut : laidOutB Try.prog = true := by kernel_rfl
theorem keyLaw : WideMaps.KeyLaw Try.prog 35 := deep_law_laid laidOut (m := 3) (by omega) (of_decide_eq_true (by kernel_rfl)) (by kernel_rfl) (by kernel_rfl)
theorem keyed : Keyed Try.prog 35 := Keyed.of_law keyLaw
theorem mapM_all {α β : Type} (f : α → Option β) (g : α → β) : ∀ l : List α, (∀ x ∈ l, f x = some (g x)) → l.mapM f = some (l.map g)
  | [], _ => rfl
  | x :: l, h => by
    rw [List.mapM_cons, h x (List.mem_cons_self ..), mapM_all f g l (fun y hy => h y (List.mem_cons_of_mem _ hy))]
    rfl
theorem wf_u8 (c : UInt8) : (Lit.int .u8 (c.toNat : Int)).wf = true := by
  have := c.toNat_lt
  simp [Lit.wf, IntKind.min, IntKind.max, IntKind.signed, IntKind.bits]
  omega
theorem wf_u32 {n : Nat} (h : n < 4294967296) : (Lit.int .u32 (n : Int)).wf = true := by
  simp [Lit.wf, IntKind.min, IntKind.max, IntKind.signed, IntKind.bits]
  omega
theorem lits_sum (d : Nat) (s : List UInt8) (h : s.length = 32) : ∃ ls, Try.prog.keyLits (d + 2) 32 (s.map byteV) = some ls := by
  have hc : Try.prog.cellsOf 32 = 32 := by kernel_rfl
  have hc1 : Try.prog.cellsOf 5 = 1 := by kernel_rfl
  refine ⟨((List.range 32).map fun i => [Lit.int .u8 ((s.getD i 0).toNat : Int)]).flatten, ?_⟩
  unfold Program.keyLits
  simp only [Try.underlying32]
  rw [if_pos (by simp [hc, h]), mapM_all (g := fun i => [Lit.int .u8 ((s.getD i 0).toNat : Int)])]
  · rfl
  · intro i hi
    have hi := List.mem_range.1 hi
    rw [hc1, Nat.mul_one]
    have e : ((s.map byteV).drop i).take 1 = [byteV (s.getD i 0)] := by
      have hil : i < (s.map byteV).length := by simp [h, hi]
      rw [List.drop_eq_getElem_cons hil]
      simp [List.getD, List.getElem?_eq_getElem (show i < s.length by omega)]
    rw [e]
    unfold Program.keyLits byteV
    simp only [Try.underlying5]
    rw [if_pos ⟨trivial, wf_u8 _⟩]
theorem key_some {k : Ky} (h : FitK k) : ∃ kl, keyOf Try.prog 35 (kV k) = some kl := by
  have hu : Try.prog.underlying 35 = some (.struct (Try.prog.fieldsOf 35)) := by kernel_rfl
  have hkt : Try.prog.keyType 35 = true := by kernel_rfl
  have hcells : Try.prog.cellsOf 35 = 33 := by kernel_rfl
  have hcs : Try.prog.cellsOf 32 = 32 := by kernel_rfl
  have hcn : Try.prog.cellsOf 33 = 1 := by kernel_rfl
  obtain ⟨m, hm⟩ : ∃ m, Try.prog.types.size + 1 = m + 4 := ⟨Try.prog.types.size - 3, by kernel_rfl⟩
  obtain ⟨ls, hls⟩ := lits_sum (m + 1) k.sum h.sum
  have hsz : (kC k).length = 33 := kC_len h
  obtain ⟨fs, hfs⟩ : ∃ fs, fs = Try.prog.fieldsOf 35 := ⟨_, rfl⟩
  have hf := Rec.key_fields
  have hall : (Try.prog.fieldsOf 35).all (·.name != "_") = true := by kernel_rfl
  rw [← hfs] at hu hf hall
  clear hfs
  obtain ⟨fl, hfl⟩ : ∃ fl, fl = fs.toList := ⟨_, rfl⟩
  rw [← hfl] at hf
  obtain ⟨f0, f1, hl, o0, t0, o1, t1⟩ : ∃ f0 f1 : Field, fl = [f0, f1] ∧ f0.offset = 0 ∧ f0.type = 32 ∧ f1.offset = 32 ∧ f1.type = 33 := by
    rcases fl with _ | ⟨f0, _ | ⟨f1, _ | ⟨f2, r⟩⟩⟩
    · simp at hf
    · simp at hf
    · simp only [List.map_cons, List.map_nil, List.cons.injEq, Prod.mk.injEq, and_true] at hf
      obtain ⟨⟨n0, t0, o0⟩, n1, t1, o1⟩ := hf
      exact ⟨f0, f1, rfl, o0, t0, o1, t1⟩
    · simp at hf
  have e0 : ((kV k).cells.toList.drop f0.offset).take (Try.prog.cellsOf f0.type) = k.sum.map byteV := by
    rw [o0, t0, hcs]
    show ((k.sum.map byteV ++ [_]).drop 0).take 32 = _
    rw [List.drop_zero, List.take_append_of_le_length (by simp [h.sum]), List.take_of_length_le (by simp [h.sum])]
  have e1 : ((kV k).cells.toList.drop f1.offset).take (Try.prog.cellsOf f1.type) = [.int .u32 (k.n : Int)] := by
    rw [o1, t1, hcn]
    show ((k.sum.map byteV ++ [_]).drop 32).take 1 = _
    rw [List.drop_append_of_le_length (by simp [h.sum]), List.drop_of_length_le (by simp [h.sum])]
    rfl
  have g1 : Try.prog.keyLits (m + 3) f1.type [.int .u32 (k.n : Int)] = some [.int .u32 (k.n : Int)] := by
    rw [t1]
    unfold Program.keyLits
    simp only [Try.underlying33]
    rw [if_pos ⟨trivial, wf_u32 h.n⟩]
  have g0 : Try.prog.keyLits (m + 3) f0.type (k.sum.map byteV) = some ls := by rw [t0]; exact hls
  have gk : Try.prog.keyLits (m + 4) 35 (kV k).cells.toList = some (ls ++ [.int .u32 (k.n : Int)]) := by
    unfold Program.keyLits
    simp only [hu]
    rw [if_pos ⟨by rw [hcells]; exact hsz, hall⟩, ← hfl, hl]
    simp [List.mapM_cons, e0, e1, g0, g1]
  refine ⟨.string (keyBytes (ls ++ [.int .u32 (k.n : Int)])), ?_⟩
  unfold keyOf
  simp only [hu]
  rw [if_pos (by simp [hkt, Value.formed, kV, hu, hcells, hsz]), hm, gk]
  rfl
open Classical in
noncomputable def kLit (k : Ky) : Lit := if h : ∃ kl, keyOf Try.prog 35 (kV k) = some kl then Classical.choose h else .bool true
theorem key_of {k : Ky} (h : FitK k) : keyOf Try.prog 35 (kV k) = some (kLit k) := by
  have h2 := key_some h
  unfold kLit
  rw [dif_pos h2]
  exact Classical.choose_spec h2
theorem isKey {k : Ky} (h : FitK k) : WideAt.IsKeyLit (kLit k) := by
  have h2 := key_of h
  generalize kLit k = kl at h2 ⊢
  exact keyed.key h2
theorem kLit_inj {a b : Ky} (ha : FitK a) (hb : FitK b) (h : kLit a = kLit b) : a = b := by
  have h1 := key_of ha
  rw [h] at h1
  have := keyed.inj h1 (key_of hb)
  unfold kV at this
  simp only [Value.agg.injEq] at this
  exact kC_inj ha hb (by simpa using this)
theorem mapT : Try.prog.underlying 69 = some (.map 35 51) := Try.underlying69
/-- a store's chunks, as they may be -/
structure Ok (l : List Ch) : Prop where
  sorted : Sorted l
  fit : ∀ c ∈ l, Fit c
/-- the map reads as the list -/
structure Reads (D : DataW Value) (l : List Ch) : Prop where
  has : ∀ kl, Maps.has D kl = true ↔ ∃ c ∈ l, kLit c.key = kl
  at_ : ∀ c ∈ l, ∀ zd, D.atKey (kLit c.key) zd = .held (chV c)
  size : Maps.size D = l.length
def ACh (b : Nat) (l : List Ch) : Asn where
  holds S w := (∃ D : DataW Value, w.ownsMap Try.prog 35 rawV b l.length D ∧ Reads D l) ∧ ∀ k, S k ↔ k = b
  keep h gs hd := by
    obtain ⟨⟨D, ⟨es, clock, hb, r⟩, h1⟩, h5⟩ := h
    exact ⟨⟨D, ⟨es, clock, (gs.block _ (lt_of_block hb) (hd _ ((h5 _).2 rfl))).trans hb, r⟩, h1⟩, h5⟩
  lt h k hk := by
    obtain ⟨⟨D, hm, h1⟩, h5⟩ := h
    rw [(h5 k).1 hk]
    exact hm.lt
theorem tight {w : World} {b n : Nat} {D : DataW Value} (h : w.ownsMap Try.prog 35 rawV b n D) {l : List Ch} (hr : Reads D l) : w.ownsMap Try.prog 35 rawV b l.length D := by
  obtain ⟨es, clock, hb, F, _, rfl⟩ := h
  refine ⟨es, clock, hb, F, ?_, rfl⟩
  rw [← hr.size]
  simp [Maps.size, length_sorted]
/-- the chunk with a key, or the zero one -/
noncomputable def getS (l : List Ch) (k : Ky) : Ch := if isAt l k = true then atS l k else zeroCh
theorem getS_fit {l : List Ch} (ok : Ok l) (k : Ky) : Fit (getS l k) := by
  unfold getS
  split
  · rename_i h; exact ok.fit _ (at_mem h).1
  · exact zero_fit
section
variable {B : Nat} {w0 w : World} {Ps : List Asn} {b : Nat} {l : List Ch}
theorem reads_nil : Reads (.map []) [] := ⟨fun kl => by simp [Maps.has], fun c hc => (by cases hc), rfl⟩
theorem mapMakeC (H : Own.St B w0 w Ps) : ∃ w' b, (Instr.makeMap 69 none).run Try.prog w = .ok (.map (some b)) w' ∧ Own.St B w0 w' (ACh b [] :: Ps) :=
  ⟨_, w.heap.size, run_makeMap 69 w, H.new (S' := fun k => k = w.heap.size) (ACh _ []) ⟨⟨.map [], World.ownsMap_made w _ _ _, reads_nil⟩, fun k => Iff.rfl⟩ (((Step.refl (fun _ => False) w).alloc (.map #[] 0)).to (fun k hk => .inr (Nat.le_of_eq hk.symm)))⟩
theorem has_is {D : DataW Value} (hr : Reads D l) (ok : Ok l) {k : Ky} (hk : FitK k) : Maps.has D (kLit k) = isAt l k := by
  cases h : isAt l k
  · cases hh : Maps.has D (kLit k)
    · rfl
    · obtain ⟨c, hc, e⟩ := (hr.has _).1 hh
      have := kLit_inj (ok.fit c hc).key hk e
      rw [(at_iff ok.sorted).2 ⟨c, hc, this⟩] at h
      cases h
  · obtain ⟨c, hc, e⟩ := (at_iff ok.sorted).1 h
    exact (hr.has _).2 ⟨c, hc, by rw [e]⟩
theorem mapLookC (H : Own.St B w0 w Ps) (i : Nat) (hi : Ps[i]? = some (ACh b l)) (ok : Ok l) {k : Ky} (hk : FitK k) :
    (Instr.lookup 69 (.map (some b)) (kV k) true).run Try.prog w = .ok (.tuple #[chV (getS l k), .bool (isAt l k)]) w := by
  obtain ⟨S, ⟨⟨D, hm, hr⟩, _⟩, _⟩ := H.at i hi
  obtain ⟨v, ps, hrun, hv⟩ := hm.look_ok keyed mapT (zeroValue_ch w) (zd := .held (chV zeroCh)) (zp := []) rfl (key_of hk)
  rw [has_is hr ok hk] at hrun
  rw [hrun]
  have e : v = chV (getS l k) := by
    unfold getS
    cases h : isAt l k
    · rw [atKey_of_not_has (by rw [has_is hr ok hk]; exact h)] at hv
      simp only [rawV, Option.some.injEq, Prod.mk.injEq, DataW.held.injEq] at hv
      rw [if_neg (by simp)]
      exact hv.1
    · have h2 := at_mem h
      have h3 := hr.at_ _ h2.1 (.held (chV zeroCh))
      rw [h2.2] at h3
      rw [h3] at hv
      simp only [rawV, Option.some.injEq, Prod.mk.injEq, DataW.held.injEq] at hv
      rw [if_pos rfl]
      exact hv.1
  rw [e]
theorem mapPutC (H : Own.St B w0 w Ps) (i : Nat) (hi : Ps[i]? = some (ACh b l)) (ok : Ok l) (hn : l.length ≤ 1000000) {c : Ch} (hc : Fit c) :
    ∃ w', (Instr.mapUpdate 69 (.map (some b)) (kV c.key) (chV c)).run Try.prog w = .ok () w' ∧ Own.St B w0 w' (Ps.set i (ACh b (putS l c))) := by
  obtain ⟨S, ⟨⟨D, hm, hr⟩, h5⟩, _, put⟩ := H.at i hi
  obtain ⟨w2, hrun2, hm2, g2⟩ := hm.update keyed mapT (by unfold maxLen; omega) (key_of hc.key) (val := chV c) (d := .held (chV c)) (ps := []) rfl
  have ht := hm.tidy keyed
  have hD := ht.isMap
  have hkey : WideAt.IsKeyLit (kLit c.key) := isKey hc.key
  have hr2 : Reads (D.put (kLit c.key) (.held (chV c))) (putS l c) := by
    refine ⟨fun kl => ?_, fun d hd zd => ?_, ?_⟩
    · by_cases hl : kl = kLit c.key
      · rw [hl, has_put_same hD hkey]
        exact ⟨fun _ => ⟨c, (mem_putS ok.sorted).2 (.inr rfl), rfl⟩, fun _ => rfl⟩
      · rw [has_put_other hl, hr.has]
        constructor
        · rintro ⟨d, hd, e⟩
          exact ⟨d, (mem_putS ok.sorted).2 (.inl ⟨hd, fun e2 => hl (by rw [← e, e2])⟩), e⟩
        · rintro ⟨d, hd, e⟩
          rcases (mem_putS ok.sorted).1 hd with h | h
          · exact ⟨d, h.1, e⟩
          · rw [h] at e
            exact absurd e.symm hl
    · rcases (mem_putS ok.sorted).1 hd with h | h
      · have hne : kLit d.key ≠ kLit c.key := fun e => h.2 (kLit_inj (ok.fit d h.1).key hc.key e)
        rw [atKey_put_other hne]
        exact hr.at_ d h.1 zd
      · rw [h]
        exact atKey_put_same hD hkey _ _
    · rw [size_put ht, has_is hr ok hc.key, putS_len, hr.size]
  refine ⟨w2, hrun2, put (fun k => k = b) w2 (ACh b (putS l c)) ⟨⟨_, tight hm2 hr2, hr2⟩, fun k => Iff.rfl⟩ ?_⟩
  exact ⟨g2.os, g2.tape, g2.output, g2.size, fun k hk hn => g2.block k hk (fun e => hn ((h5 k).2 (by cases e; rfl))), fun k hk => .inl ((h5 k).2 hk)⟩
theorem mapDelC (H : Own.St B w0 w Ps) (i : Nat) (hi : Ps[i]? = some (ACh b l)) (ok : Ok l) {k : Ky} (hk : FitK k) (hat : isAt l k = true) (ty : TypeId) :
    ∃ w', (Builtin.delete_ #[69, 35] ty #[.map (some b), kV k]).run Try.prog w = .ok (.tuple #[]) w' ∧ Own.St B w0 w' (Ps.set i (ACh b (l.eraseIdx (posK k l)))) := by
  obtain ⟨S, ⟨⟨D, hm, hr⟩, h5⟩, _, put⟩ := H.at i hi
  obtain ⟨w2, hrun2, hm2, turn⟩ := hm.drop keyed mapT (key_of hk) ty
  have g2 := turn.grown
  have ht := hm.tidy keyed
  have hlt := (at_some hat).1
  have hr2 : Reads (D.del (kLit k)) (l.eraseIdx (posK k l)) := by
    refine ⟨fun kl => ?_, fun d hd zd => ?_, ?_⟩
    · by_cases hl : kl = kLit k
      · rw [hl, has_del_same]
        refine ⟨fun h => (by cases h), ?_⟩
        rintro ⟨d, hd, e⟩
        have h := (mem_erase ok.sorted hat).1 hd
        exact absurd (kLit_inj (ok.fit d h.1).key hk e) h.2
      · rw [has_del_other hl, hr.has]
        constructor
        · rintro ⟨d, hd, e⟩
          exact ⟨d, (mem_erase ok.sorted hat).2 ⟨hd, fun e2 => hl (by rw [← e, e2])⟩, e⟩
        · rintro ⟨d, hd, e⟩
          exact ⟨d, ((mem_erase ok.sorted hat).1 hd).1, e⟩
    · have h := (mem_erase ok.sorted hat).1 hd
      have hne : kLit d.key ≠ kLit k := fun e => h.2 (kLit_inj (ok.fit d h.1).key hk e)
      rw [atKey_del_other hne]
      exact hr.at_ d h.1 zd
    · have h := size_del (k := kLit k) ht
      rw [has_is hr ok hk, hat, hr.size] at h
      rw [List.length_eraseIdx, if_pos hlt]
      simp at h
      omega
  refine ⟨w2, hrun2, put (fun k => k = b) w2 (ACh b (l.eraseIdx (posK k l))) ⟨⟨_, tight hm2 hr2, hr2⟩, fun k => Iff.rfl⟩ ?_⟩
  exact ⟨g2.os, g2.tape, g2.output, g2.size, fun k hk hn => g2.block k hk (fun e => hn ((h5 k).2 (by cases e; rfl))), fun k hk => .inl ((h5 k).2 hk)⟩
theorem mapNilC {k : Ky} (hk : FitK k) (w : World) : (Instr.lookup 69 (.map none) (kV k) true).run Try.prog w = .ok (.tuple #[chV zeroCh, .bool false]) w := by
  have := Maps.look_nil (w := w) true keyed mapT (zeroValue_ch w) (key_of hk)
  simpa using this
end
/-! ### the store -/
/-- the parts: the struct's cell, and the map, if there is one -/
def aParts (p : Nat) (l : List Ch) : Option Nat → List Asn
  | none => [AVals p 71 [.map none]]
  | some b => [AVals p 71 [.map (some b)], ACh b l]
def AS (p : Nat) (l : List Ch) : Asn := AEx (α := { m : Option Nat // m = none → l = [] }) fun m => AJoin (aParts p l m.1)
section
variable {B : Nat} {w0 w : World} {Ps : List Asn} {p : Nat} {l : List Ch}
theorem as_open (h : Own.St B w0 w (AS p l :: Ps)) : ∃ m : Option Nat, (m = none → l = []) ∧ Own.St B w0 w (aParts p l m ++ Ps) := by
  obtain ⟨⟨m, hm⟩, h⟩ := h.openE
  exact ⟨m, hm, h.openJ⟩
theorem as_close {m : Option Nat} (hm : m = none → l = []) (h : Own.St B w0 w (aParts p l m ++ Ps)) : Own.St B w0 w (AS p l :: Ps) :=
  Own.St.closeE (α := { m : Option Nat // m = none → l = [] }) (P := fun m => AJoin (aParts p l m.1)) ⟨m, hm⟩ h.closeJ
/-- what is in the cell, and what a look-up finds -/
theorem as_look (h : Own.St B w0 w (AS p l :: Ps)) (ok : Ok l) {k : Ky} (hk : FitK k) : ∃ m : Option Nat, w.cell? ⟨p, 0, none⟩ = some (.map m) ∧ (Instr.lookup 69 (.map m) (kV k) true).run Try.prog w = .ok (.tuple #[chV (getS l k), .bool (isAt l k)]) w := by
  obtain ⟨m, hm, h⟩ := as_open h
  cases m with
  | none =>
    have e := hm rfl
    subst e
    refine ⟨none, (h.cellV 0 rfl 0 rfl).1, ?_⟩
    have := mapNilC hk w
    simpa [getS, isAt] using this
  | some b => exact ⟨some b, (h.cellV 0 rfl 0 rfl).1, mapLookC h 1 rfl ok hk⟩
end
end Sto
end Go.Proofs.Ytcfdjoohbicomaa

end
section
namespace Go.Proofs.Ytcfdjoohbicomaa
open Go.RowKit Go.Own
namespace Sto
open Go.StoM Byt
abbrev zC : List Value := chC zeroCh
theorem new_run {o : Oper} (ho : o.op = .alloc 51) (ρ : Operand → Value) {z : List Value} (hz : (Try.prog.info? 51).bind (·.zero) = some (.agg z.toArray)) (w : World) : (execOp ρ o).run Try.prog w = .ok (.value (.pointer (some ⟨w.heap.size, 0, none⟩))) (w.alloc (.cells z.toArray 51)) := by
  obtain ⟨i, hi, hi2⟩ := Option.bind_eq_some_iff.1 hz
  simp [execOp, ho, Instr.alloc, newVar, zeroValue, typeInfo, hi, hi2, Result.andThen, go_sem]
theorem fld_m {o : Oper} {X : Operand} (ho : o.op = .fieldAddr 71 X 0) {p : Nat} (ρ : Operand → Value) (w : World) (h0 : ρ X = ptr p) : (execOp ρ o).run Try.prog w = .ok (.value (ptr p)) w := by
  simp [execOp, ho, h0, go_sem, add_of]
theorem ld_m {o : Oper} {X : Operand} (ho : o.op = .load 69 X) {a : Addr} {v : Value} (ρ : Operand → Value) {w : World} (hc : w.cell? a = some v) (h0 : ρ X = .pointer (some a)) : (execOp ρ o).run Try.prog w = .ok (.value v) w := by
  simp [execOp, ho, h0, go_sem, hc]
theorem look_ok_exec {o : Oper} {x y : Tmp} {mt : TypeId} (ho : o.op = .lookup mt (.tmp x) (.tmp y) true) {m kv v : Value} {w : World} (hrun : (Instr.lookup mt m kv true).run Try.prog w = .ok v w) (ρ : Operand → Value) (h0 : ρ (.tmp x) = m) (h1 : ρ (.tmp y) = kv) : (execOp ρ o).run Try.prog w = .ok (.value v) w := by
  simp [execOp, ho, h0, h1, hrun, go_sem]
section
variable {B : Nat} {w0 w : World} {Ps : List Asn} {p : Nat} {l : List Ch}
/-- a chunk is stored in a variable of one's own -/
theorem ch_store (H : Own.St B w0 w Ps) (i : Nat) {b : Nat} {vs : List Value} (hi : Ps[i]? = some (AVals b 51 vs)) (hv : vs.length = 37) (cs : List Value) (hc : cs.length = 37) :
    w.there b 0 cs.toArray.size ∧ Own.St B w0 (w.setCells b 0 cs.toArray.toList) (Ps.set i (AVals b 51 cs)) := by
  refine ⟨H.thereV i hi (by rw [List.size_toArray, hc, hv]; exact Nat.le_refl _), ?_⟩
  have h := Own.St.setAll i cs 0 w Ps vs H hi (by rw [hc, hv])
  simpa using h
/-- the map's value in the cell, and what a look-up finds, in every later world -/
theorem as_looks (H : Own.St B w0 w (AS p l :: Ps)) (ok : Ok l) {k : Ky} (hk : FitK k) : ∃ m : Option Nat, ∀ wx, Below w.heap.size w wx → wx.cell? ⟨p, 0, none⟩ = some (.map m) ∧ (Instr.lookup 69 (.map m) (kV k) true).run Try.prog wx = .ok (.tuple #[chV (getS l k), .bool (isAt l k)]) wx := by
  obtain ⟨m, h1, h2⟩ := as_look H ok hk
  refine ⟨m, fun wx hwx => ?_⟩
  have c := cellLater' h1 hwx
  obtain ⟨m', h3, h4⟩ := as_look (H.later hwx) ok hk
  rw [c] at h3
  cases h3
  exact ⟨c, h4⟩
theorem zC_len : zC.length = 37 := chC_len zero_fit.key
set_option maxRecDepth 10000 in
set_option maxHeartbeats 3200000 in
theorem get_any (H : Own.St B w0 w (AS p l :: Ps)) (ok : Ok l) {k : Ky} (hk : FitK k) : Calls Try.prog 18 #[ptr p, kV k] w fun e w' => e = .returned (.tuple #[chV (getS l k), .bool (isAt l k)]) ∧ Below w.heap.size w w' := by
  obtain ⟨m, hm⟩ := as_looks H ok hk
  obtain ⟨kc, hkc⟩ : ∃ c, c = kC k := ⟨_, rfl⟩
  obtain ⟨F, hF⟩ : ∃ c, c = chC (getS l k) := ⟨_, rfl⟩
  obtain ⟨is, his⟩ : ∃ c, c = isAt l k := ⟨_, rfl⟩
  have FL : Hid (F.length = 37) := by show _ = _; rw [hF]; exact chC_len (getS_fit ok k).key
  have FO : Hid (F.toArray.all (·.oneCell') = true) := by show _ = true; rw [hF]; exact all_oneCell_toArray (chC_one _)
  have KL : Hid (kc.length = 33) := by show _ = _; rw [hkc]; exact kC_len hk
  have HM : Hid (∀ wx, Below w.heap.size w wx → wx.cell? ⟨p, 0, none⟩ = some (.map m) ∧ (Instr.lookup 69 (.map m) (.agg kc.toArray) true).run Try.prog wx = .ok (.tuple #[.agg F.toArray, .bool is]) wx) := by rw [hkc, hF, his]; exact hm
  show Calls Try.prog _ #[_, .agg (kC k).toArray] w fun e w' => e = .returned (.tuple #[.agg (chC (getS l k)).toArray, .bool (isAt l k)]) ∧ _
  rw [← hkc, ← hF, ← his]
  obtain ⟨z, hz⟩ : ∃ z, z = zC := ⟨_, rfl⟩
  have ZL : Hid (z.length = 37) := by show z.length = 37; rw [hz]; exact zC_len
  have ZP : Hid ((Try.prog.info? 51).bind (·.zero) = some (.agg z.toArray)) := by rw [hz]; exact zero_ch
  have hb1 := (Own.St.start w).boxV 35 kc
  obtain ⟨bk, hbk⟩ : ∃ b, b = w.heap.size := ⟨_, rfl⟩
  obtain ⟨W1, hW1⟩ : ∃ W, W = w.alloc (.cells kc.toArray 35) := ⟨_, rfl⟩
  rw [← hW1] at hb1
  have hb2 := hb1.boxV 51 z
  obtain ⟨b4, hb4⟩ : ∃ b, b = W1.heap.size := ⟨_, rfl⟩
  obtain ⟨W2, hW2⟩ : ∃ W, W = W1.alloc (.cells z.toArray 51) := ⟨_, rfl⟩
  rw [← hb4, ← hW2] at hb2
  have H2 := Lib.hid hb2
  have E1 := hW1.symm
  have HB4 := Lib.hid hb4
  have HW2 := Lib.hid hW2
  have RK : Hid (∀ wx, Below W2.heap.size W2 wx → wx.rangeAt w.heap.size 0 kc) := fun wx h j v hv => by rw [Nat.zero_add]; exact ((H2.out.later h).cellV 1 rfl j hv).1
  have h3 := H2.out.drew.boxV 51 z
  obtain ⟨b6, hb6⟩ : ∃ b, b = W2.heap.size := ⟨_, rfl⟩
  have hb6' : W2.drew.heap.size = b6 := by rw [hb6]; rfl
  rw [hb6'] at h3
  obtain ⟨W3, hW3⟩ : ∃ W, W = W2.drew.alloc (.cells z.toArray 51) := ⟨_, rfl⟩
  rw [← hW3] at h3
  have hs := ch_store h3 0 rfl ZL.out F FL.out
  obtain ⟨W4, hW4⟩ : ∃ W, W = W3.setCells b6 0 F.toArray.toList := ⟨_, rfl⟩
  rw [← hW4] at hs
  have hr := hs.2.boxRange 0 rfl
  have hs2 := ch_store hs.2 1 rfl ZL.out F FL.out
  obtain ⟨W5, hW5⟩ : ∃ W, W = W4.setCells b4 0 F.toArray.toList := ⟨_, rfl⟩
  rw [← hW5] at hs2
  have IW := Lib.hid (info_chA F FL.out)
  have E3 : Hid (∀ o : Oper, o.op = .alloc 51 → ∀ ρ, (execOp ρ o).run Try.prog W2.drew = .ok (.value (.pointer (some ⟨b6, 0, none⟩))) W3) := fun o ho ρ => by rw [hW3, ← hb6']; exact new_run ho ρ ZP.out _
  have E4 : Hid ((Instr.storeAt 51 (.pointer (some ⟨b6, 0, none⟩)) (.agg F.toArray)).run Try.prog W3 = .ok () W4) := by
    rw [hW4]
    exact run_storeAt_mid W3 b6 0 51 F.toArray hs.1 IW.out FO.out
  have CF : Hid (∀ wx : World, (wx = W2.drew ∨ wx = W3 ∨ wx = W4) → Below w.heap.size w wx ∧ wx.rangeAt w.heap.size 0 kc) := by
    rintro wx (rfl | rfl | rfl)
    · exact ⟨H2.out.drew.below, H2.out.drew.boxRange 1 rfl⟩
    · exact ⟨h3.below, h3.boxRange 2 rfl⟩
    · exact ⟨hs.2.below, hs.2.boxRange 2 rfl⟩
  have T2 := Lib.hid hs2.1
  have RG := Lib.hid hr
  have H5 := Lib.hid hs2.2
  have HW5 := Lib.hid hW5
  have CJ : Hid (∀ (j : Nat) (wx : World), (wx = match j with | 0 => W2.drew | 1 => W3 | _ => W4) → Below w.heap.size w wx ∧ wx.rangeAt w.heap.size 0 kc) := by
    intro j wx h
    refine CF.out wx ?_
    match j, h with
    | 0, h => exact .inl h
    | 1, h => exact .inr (.inl h)
    | (j + 2), h => exact .inr (.inr h)
  clear hm hkc hF his hz hb1 hbk hW1 hb2 hb4 hW2 ok hk H hs hs2 hr hW4 hW5 h3 hW3 hb6 hb6'
  go_enter Try.func18, Try.ntmps18
  go_wp2_with (refine Own.wpList_allocZ rfl 51 rfl z.toArray ZP.out ?_; rw [← HB4.out, ← HW2.out])
  refine wp_chain_list [9, 10] (fun j wx => wx = match j with | 0 => W2.drew | 1 => W3 | _ => W4) (by kernel_rfl) (by kernel_rfl) (by kernel_rfl) (by kernel_rfl) rfl ?_
  refine wpG_move (ptr p) rfl (by kernel_rfl) (by kernel_rfl) (by kernel_rfl) ?_
  refine wpG_run1 (x := .tmp 12) (ptr p) (ptr p) (by kernel_rfl) (by kernel_rfl) (by kernel_rfl) (by kernel_rfl) (fun j wx ρ hC h0 hc => by simp [go_sem, h0]) ?_
  refine wpG_run1 (x := .tmp 13) (ptr p) (ptr p) (by kernel_rfl) (by kernel_rfl) (by kernel_rfl) (by kernel_rfl) (fun j wx ρ hC h0 hc => fld_m rfl ρ wx h0) ?_
  refine wpG_run1 (x := .tmp 14) (ptr p) (.map m) (by kernel_rfl) (by kernel_rfl) (by kernel_rfl) (by kernel_rfl) (fun j wx ρ hC h0 hc => ld_m rfl ρ (HM.out wx (CJ.out j wx hC).1).1 h0) ?_
  refine wpG_run1 (x := .tmp 3) (.pointer (some ⟨w.heap.size, 0, none⟩)) (.agg kc.toArray) (by kernel_rfl) (by kernel_rfl) (by kernel_rfl) (by kernel_rfl) (fun j wx ρ hC h0 hc => Rec.load_key kc KL.out rfl ρ (CJ.out j wx hC).2 h0) ?_
  refine wpG_run2 (x := .tmp 15) (y := .tmp 16) (.map m) (.agg kc.toArray) (.tuple #[.agg F.toArray, .bool is]) (by kernel_rfl) (by kernel_rfl) (by kernel_rfl) (by kernel_rfl) (by kernel_rfl) (fun j wx ρ hC h0 h1 hc => look_ok_exec rfl (HM.out wx (CJ.out j wx hC).1).2 ρ h0 h1) ?_
  refine wpG_move (.tuple #[.agg F.toArray, .bool is]) rfl (by kernel_rfl) (by kernel_rfl) (by kernel_rfl) ?_
  refine wpG_run1 (x := .tmp 11) (.tuple #[.agg F.toArray, .bool is]) (.agg F.toArray) (by kernel_rfl) (by kernel_rfl) (by kernel_rfl) (by kernel_rfl) (fun j wx ρ hC h0 hc => by simp [go_sem, h0]) ?_
  refine wpG_run1 (x := .tmp 11) (.tuple #[.agg F.toArray, .bool is]) (.bool is) (by kernel_rfl) (by kernel_rfl) (by kernel_rfl) (by kernel_rfl) (fun j wx ρ hC h0 hc => by simp [go_sem, h0]) ?_
  refine wpG_op 0 (.pointer (some ⟨b6, 0, none⟩)) _ (.inl rfl) (by kernel_rfl) (by kernel_rfl) (by kernel_rfl) (by kernel_rfl) (by kernel_rfl) (fun wx hC => ⟨W3, by subst hC; exact E3.out _ rfl _, rfl⟩) ?_
  refine wpG_op 1 undef _ (.inr ⟨rfl, rfl⟩) (by kernel_rfl) (by kernel_rfl) (by kernel_rfl) (by kernel_rfl) (by kernel_rfl) (fun wx hC => ⟨W4, by subst hC; exact storeAt_E (a := .pointer (some ⟨b6, 0, none⟩)) (v := .agg F.toArray) rfl (by kernel_rfl) (by kernel_rfl) E4.out, rfl⟩) ?_
  refine wpG_assign (.bool is) rfl (by kernel_rfl) (by kernel_rfl) (by kernel_rfl) ?_
  refine wpG_end (fun w9 hw9 => ?_)
  obtain rfl : w9 = W4 := hw9
  simp only [setL, List.set_cons_zero, List.set_cons_succ]
  clear E3 E4 CF CJ HM HW2 HB4 ZP ZL KL E1 RK H2
  go_wp2_with (first
    | (refine wpList_val rfl (load_ch F FL.out rfl _ (b := b6) (k := 0) RG.out rfl) ?_)
    | (refine wpList_store_mid rfl 51 (.tmp 4) (.tmp 20) rfl b4 0 F.toArray rfl rfl T2.out IW.out FO.out ?_; rw [← HW5.out]))
  refine bodyPost_ret (results_cell_two rfl _ _ b4 51 _ (0, 0) _ _ rfl rfl (H5.out.rowV 1 rfl) Try.underlying51 rfl (info_ch F FL.out)) rfl ?_
  exact ⟨rfl, H5.out.below⟩
end
end Sto
end Go.Proofs.Ytcfdjoohbicomaa

end
section
namespace Go.Proofs.Ytcfdjoohbicomaa
open Go.RowKit Go.Own Go.Maps
namespace Sto
open Go.StoM Byt
theorem boxy_key : Boxy Try.prog 35 33 := boxy_of (kC zeroCh.key).toArray (by kernel_rfl) (by kernel_rfl) (by kernel_rfl)
theorem fld_k0 {o : Oper} {X : Operand} (ho : o.op = .fieldAddr 51 X 0) {p : Nat} (ρ : Operand → Value) (w : World) (h0 : ρ X = ptr p) : (execOp ρ o).run Try.prog w = .ok (.value (ptr p)) w := by
  simp [execOp, ho, h0, go_sem, add_of]
theorem ok_put {l : List Ch} (ok : Ok l) {c : Ch} (hc : Fit c) : Ok (putS l c) :=
  ⟨sorted_putS ok.sorted c, fun d hd => by
    rcases (mem_putS ok.sorted).1 hd with h | h
    · exact ok.fit d h.1
    · rw [h]; exact hc⟩
theorem eqlMapIn {P : Program} (w : World) (d : Nat) (t k e : TypeId) (m : Option Nat) (h : P.underlying t = some (.map k e)) : (Op.equalIn (d + 1) t (.map m) (.map none)).run P w = .ok m.isNone w := by
  cases m <;> simp [Op.equalIn, run_underlying h]
theorem eqlMap {P : Program} (w : World) (t k e : TypeId) (m : Option Nat) (h : P.underlying t = some (.map k e)) : (binOp .eql t (.map m) (.map none)).run P w = .ok (.bool m.isNone) w := by
  have h2 : (Op.equal t (.map m) (.map none)).run P w = .ok m.isNone w := eqlMapIn w 9999 t k e m h
  simp [binOp, h2]
theorem ok_nil : Ok [] := ⟨List.Pairwise.nil, fun c hc => by cases hc⟩
section
variable {B : Nat} {w0 w : World} {Ps : List Asn} {p : Nat} {l : List Ch}
theorem new_any (H : Own.St B w0 w Ps) : Calls Try.prog 11 #[] w fun e w' => ∃ p, e = .returned (ptr p) ∧ Own.St B w0 w' (AS p [] :: Ps) := by
  have h := H.boxV 71 [.map none]
  have H1 : Hid (Own.St B w0 (w.alloc (.cells #[.map none] 71)) (AS w.heap.size [] :: Ps)) := as_close (m := none) (fun _ => rfl) h
  clear h H
  go_enter Try.func11, Try.ntmps11
  go_wp2
  go_ret
  exact ⟨_, rfl, H1.out⟩
set_option maxRecDepth 10000 in
set_option maxHeartbeats 3200000 in
theorem put_any (H : Own.St B w0 w (AS p l :: Ps)) (ok : Ok l) (hn : l.length ≤ 1000000) {c : Ch} (hc : Fit c) : Calls Try.prog 35 #[ptr p, chV c] w fun e w' => e = .returned (.tuple #[]) ∧ Own.St B w0 w' (AS p (putS l c) :: Ps) := by
  obtain ⟨cs, hcs⟩ : ∃ x, x = chC c := ⟨_, rfl⟩
  obtain ⟨kc, hkc⟩ : ∃ x, x = kC c.key := ⟨_, rfl⟩
  have CL : Hid (cs.length = 37) := by show _ = _; rw [hcs]; exact chC_len hc.key
  have KL : Hid (kc.length = 33) := by show _ = _; rw [hkc]; exact kC_len hc.key
  obtain ⟨bc, hbc⟩ : ∃ b, b = w.heap.size := ⟨_, rfl⟩
  have KR : Hid (∀ {Q1 : List Asn} (wx : World), Own.St B w0 wx (AVals bc 51 cs :: Q1) → wx.rangeAt bc 0 kc) := fun wx h j v hv => by
    rw [Nat.zero_add]
    exact (h.cellV 0 rfl j (by rw [hcs]; exact chC_key hc.key j v (by rw [← hkc]; exact hv))).1
  have MP : Hid (∀ {b : Nat} (wx : World), Own.St B w0 wx (AVals bc 51 cs :: AVals p 71 [.map (some b)] :: ACh b l :: Ps) → ∃ w', (Instr.mapUpdate 69 (.map (some b)) (.agg kc.toArray) (.agg cs.toArray)).run Try.prog wx = .ok () w' ∧ Own.St B w0 w' (AS p (putS l c) :: Ps)) := by
    intro b wx h
    obtain ⟨w', hr, h2⟩ := mapPutC h 2 rfl ok hn hc
    rw [hkc, hcs]
    refine ⟨w', hr, as_close (m := some b) (fun h => by cases h) ?_⟩
    simp only [List.set_cons_zero, List.set_cons_succ] at h2
    exact h2.drop 1
  show Calls Try.prog _ #[_, .agg (chC c).toArray] w _
  rw [← hcs]
  obtain ⟨m, hm, h⟩ := as_open H
  have hB := h.boxV 51 cs
  obtain ⟨W1, hW1⟩ : ∃ W, W = w.alloc (.cells cs.toArray 51) := ⟨_, rfl⟩
  rw [← hW1, ← hbc] at hB
  have E1 := hW1.symm
  have EB := hbc.symm
  clear hcs hkc hc ok hn H h hW1 hbc
  cases m with
  | some b =>
    have H3 : Hid (Own.St B w0 W1 (AVals bc 51 cs :: AVals p 71 [.map (some b)] :: ACh b l :: Ps)) := hB
    have c0 := (H3.out.cellV 1 rfl 0 rfl).1
    have EQ : (binOp .eql 69 (.map (some b)) (.map none)).run Try.prog W1 = .ok (.bool false) W1 := eqlMap W1 _ _ _ (some b) mapT
    clear hB hm
    go_enter Try.func35, Try.ntmps35
    go_wp2_with (fail)
    refine wp_laxT_list 7 (by kernel_rfl) (by kernel_rfl) (by kernel_rfl) (by kernel_rfl) (by kernel_rfl) ?_
    simp only [List.take_succ_cons, List.take_zero, List.drop_succ_cons, List.drop_zero]
    refine wpL_move (ptr p) rfl (by kernel_rfl) (by kernel_rfl) (by kernel_rfl) (by kernel_rfl) ?_
    refine wpL_run1 (x := .tmp 13) (ptr p) (ptr p) (by kernel_rfl) (by kernel_rfl) (by kernel_rfl) (by kernel_rfl) (by kernel_rfl) (fun wx ρ hwx h0 hc => by simp [go_sem, h0]) ?_
    refine wpL_run1 (x := .tmp 14) (ptr p) (ptr p) (by kernel_rfl) (by kernel_rfl) (by kernel_rfl) (by kernel_rfl) (by kernel_rfl) (fun wx ρ hwx h0 hc => fld_m rfl ρ wx h0) ?_
    refine wpL_run1 (x := .tmp 15) (ptr p) (.map (some b)) (by kernel_rfl) (by kernel_rfl) (by kernel_rfl) (by kernel_rfl) (by kernel_rfl) (fun wx ρ hwx h0 hc => ld_m rfl ρ ((H3.out.later hwx).cellV 1 rfl 0 rfl).1 h0) ?_
    refine wpL_run1 (x := .tmp 3) (ptr bc) (ptr bc) (by kernel_rfl) (by kernel_rfl) (by kernel_rfl) (by kernel_rfl) (by kernel_rfl) (fun wx ρ hwx h0 hc => fld_k0 rfl ρ wx h0) ?_
    refine wpL_run1 (x := .tmp 17) (ptr bc) (.agg kc.toArray) (by kernel_rfl) (by kernel_rfl) (by kernel_rfl) (by kernel_rfl) (by kernel_rfl) (fun wx ρ hwx h0 hc => Rec.load_key kc KL.out rfl ρ (KR.out wx (H3.out.later hwx)) h0) ?_
    refine wpL_run1 (x := .tmp 3) (ptr bc) (.agg cs.toArray) (by kernel_rfl) (by kernel_rfl) (by kernel_rfl) (by kernel_rfl) (by kernel_rfl) (fun wx ρ hwx h0 hc => load_ch cs CL.out rfl ρ ((H3.out.later hwx).boxRange 0 rfl) h0) ?_
    refine wpL_end (by kernel_rfl) (fun w4 hw4 => ?_)
    simp only [FinL, setL, List.set_cons_zero, List.set_cons_succ]
    obtain ⟨w5, e5, h5⟩ := MP.out w4 (H3.out.later hw4)
    have H5 := Lib.hid h5
    clear h5 hw4 H3 MP KR KL CL
    go_wp2
    go_end0
    exact ⟨rfl, H5.out⟩
  | none =>
    have hl := hm rfl
    subst hl
    have H2 : Hid (Own.St B w0 W1 (AVals bc 51 cs :: AVals p 71 [.map none] :: Ps)) := hB
    have c0 := (H2.out.cellV 1 rfl 0 rfl).1
    obtain ⟨w2, b, e2, h2⟩ := mapMakeC H2.out
    have c1 := h2.cellV 2 rfl 0 rfl
    obtain ⟨c1, c2⟩ := c1
    have h3 := h2.storeV 2 rfl 0 (.map (some b))
    simp only [List.set_cons_zero, List.set_cons_succ] at h3
    obtain ⟨W3, hW3⟩ : ∃ W, W = w2.setCell ⟨p, 0, none⟩ (.map (some b)) := ⟨_, rfl⟩
    rw [← hW3] at h3
    have E3 := hW3.symm
    have H3 : Hid (Own.St B w0 W3 (AVals bc 51 cs :: AVals p 71 [.map (some b)] :: ACh b [] :: Ps)) := h3.perm (by
      refine (List.Perm.swap _ _ _).trans ?_
      exact (List.Perm.swap _ _ _).cons _)
    have EQ : (binOp .eql 69 (.map none) (.map none)).run Try.prog W1 = .ok (.bool true) W1 := eqlMap W1 _ _ _ none mapT
    clear hB hm h2 h3 hW3 H2
    go_enter Try.func35, Try.ntmps35
    go_wp2_with (fail)
    refine wp_laxT_list 7 (by kernel_rfl) (by kernel_rfl) (by kernel_rfl) (by kernel_rfl) (by kernel_rfl) ?_
    simp only [List.take_succ_cons, List.take_zero, List.drop_succ_cons, List.drop_zero]
    refine wpL_move (ptr p) rfl (by kernel_rfl) (by kernel_rfl) (by kernel_rfl) (by kernel_rfl) ?_
    refine wpL_run1 (x := .tmp 13) (ptr p) (ptr p) (by kernel_rfl) (by kernel_rfl) (by kernel_rfl) (by kernel_rfl) (by kernel_rfl) (fun wx ρ hwx h0 hc => by simp [go_sem, h0]) ?_
    refine wpL_run1 (x := .tmp 14) (ptr p) (ptr p) (by kernel_rfl) (by kernel_rfl) (by kernel_rfl) (by kernel_rfl) (by kernel_rfl) (fun wx ρ hwx h0 hc => fld_m rfl ρ wx h0) ?_
    refine wpL_run1 (x := .tmp 15) (ptr p) (.map (some b)) (by kernel_rfl) (by kernel_rfl) (by kernel_rfl) (by kernel_rfl) (by kernel_rfl) (fun wx ρ hwx h0 hc => ld_m rfl ρ ((H3.out.later hwx).cellV 1 rfl 0 rfl).1 h0) ?_
    refine wpL_run1 (x := .tmp 3) (ptr bc) (ptr bc) (by kernel_rfl) (by kernel_rfl) (by kernel_rfl) (by kernel_rfl) (by kernel_rfl) (fun wx ρ hwx h0 hc => fld_k0 rfl ρ wx h0) ?_
    refine wpL_run1 (x := .tmp 17) (ptr bc) (.agg kc.toArray) (by kernel_rfl) (by kernel_rfl) (by kernel_rfl) (by kernel_rfl) (by kernel_rfl) (fun wx ρ hwx h0 hc => Rec.load_key kc KL.out rfl ρ (KR.out wx (H3.out.later hwx)) h0) ?_
    refine wpL_run1 (x := .tmp 3) (ptr bc) (.agg cs.toArray) (by kernel_rfl) (by kernel_rfl) (by kernel_rfl) (by kernel_rfl) (by kernel_rfl) (fun wx ρ hwx h0 hc => load_ch cs CL.out rfl ρ ((H3.out.later hwx).boxRange 0 rfl) h0) ?_
    refine wpL_end (by kernel_rfl) (fun w4 hw4 => ?_)
    simp only [FinL, setL, List.set_cons_zero, List.set_cons_succ]
    obtain ⟨w5, e5, h5⟩ := MP.out w4 (H3.out.later hw4)
    have H5 := Lib.hid h5
    clear h5 hw4 H3 MP KR KL CL
    go_wp2
    go_end0
    exact ⟨rfl, H5.out⟩
end
end Sto
end Go.Proofs.Ytcfdjoohbicomaa

end
