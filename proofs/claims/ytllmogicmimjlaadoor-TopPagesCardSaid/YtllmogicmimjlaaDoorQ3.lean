/- Merged: LaxF PgaA PgaB PgaC PgaD PgaE LgaA PgaF -/
import Derived.Great.Walk
import Derived.Laws.BitsAllLaws
import Derived.Laws.Cover3
import Derived.Test.YtllmogicmimjlaaDoorQ2
set_option linter.unusedVariables false
section
namespace Go.Own
open Go.RowKit

section
variable {P : Program} {ops : Array Oper} {C : World → Prop}

/-- the slots of F that are there hold new blocks, apart from one another -/
def Fresh (ops : Array Oper) (F : List Tmp) (listed : Array Bool) (a1 : Act) (w1 : World) : Prop :=
  (∀ (j : Nat) (oj : Oper) (d : Tmp), ops[j]? = some oj → listed.getD j false = true → oj.dst = some d → d ∈ F → ∃ b, a1.tmps.getD d undef = .pointer (some ⟨b, 0, none⟩) ∧ b < w1.heap.size) ∧
  ∀ (j k : Nat) (oj ok : Oper) (d d' : Tmp), ops[j]? = some oj → ops[k]? = some ok → listed.getD j false = true → listed.getD k false = true → oj.dst = some d → ok.dst = some d' → d ∈ F → d' ∈ F → d ≠ d' → a1.tmps.getD d undef ≠ a1.tmps.getD d' undef

/-- an operation's value, and that it is the new block if the operation makes one -/
theorem with_fresh {F : List Tmp} {ob : Obj} {oi : Oper} {i : Nat} {a0 a1 : Act} {w1 : World} {R : Value → World → Prop} {K : Act → World → Prop} {Q : Exit → Act → World → Prop} (hs : a1.tmps.size = a0.tmps.size)
    (hin : ∀ (k : Nat) (o : Oper) (d : Tmp), ops[k]? = some o → o.dst = some d → d < a0.tmps.size) (hoi : ops[i]? = some oi)
    (hF : ∀ (i : Nat) (oi : Oper) (d : Tmp), ops[i]? = some oi → oi.dst = some d → d ∈ F → oi.guard = none ∧ ∀ a1 w K Q, oi.wp P a1 w K Q ↔ K (a1.put (some d) (.pointer (some ⟨w.heap.size, 0, none⟩))) (w.alloc ob))
    (h : ∀ (K : Act → World → Prop) (Q : Exit → Act → World → Prop), (∀ v w', R v w' → Below w1.heap.size w1 w' → K (a1.put oi.dst v) w') → oi.wp P a1 w1 K Q)
    (k : ∀ v w', R v w' → Below w1.heap.size w1 w' → (∀ d, oi.dst = some d → d ∈ F → v = .pointer (some ⟨w1.heap.size, 0, none⟩) ∧ w1.heap.size < w'.heap.size) → K (a1.put oi.dst v) w') : oi.wp P a1 w1 K Q := by
  by_cases hd : ∃ d, oi.dst = some d ∧ d ∈ F
  · obtain ⟨d, hd, hdF⟩ := hd
    have hi := (hF i oi d hoi hd hdF).2
    obtain ⟨v, e, hv, hb⟩ := (hi a1 w1 _ Q).1 (h (fun a' w' => ∃ v, a' = a1.put oi.dst v ∧ R v w' ∧ Below w1.heap.size w1 w') Q (fun v w' h1 h2 => ⟨v, rfl, h1, h2⟩))
    have hlt : d < a1.tmps.size := by rw [hs]; exact hin i oi d hoi hd
    have e2 : v = .pointer (some ⟨w1.heap.size, 0, none⟩) := by
      have := congrArg (fun a : Act => a.tmps.getD d undef) e
      simp only [hd] at this
      rw [put_getD a1 d d _ hlt, put_getD a1 d d _ hlt, if_pos rfl, if_pos rfl] at this
      exact this.symm
    refine (hi a1 w1 K Q).2 ?_
    have := k v _ hv hb (fun d' hd' _ => ⟨e2, by simp⟩)
    rw [hd, e2] at this
    exact this
  · exact h K Q (fun v w' h1 h2 => k v w' h1 h2 (fun d h3 h4 => absurd ⟨d, h3, h4⟩ hd))

/-- an operation waits for another, by way of others -/
inductive Reach (md : Region.Mode) (ops : Array Oper) : Oper → Nat → Prop
  | one {o : Oper} {e : Edge} {j : Nat} : e ∈ o.after → Region.binds md e = true → e.on = j → Reach md ops o j
  | step {o ok : Oper} {e : Edge} {j : Nat} : e ∈ o.after → Region.binds md e = true → ops[e.on]? = some ok → Reach md ops ok j → Reach md ops o j
theorem Reach.listed {md : Region.Mode} {ops : Array Oper} {listed : Array Bool} (hc : ∀ (j : Nat) (oj : Oper), ops[j]? = some oj → listed.getD j false = true → ∀ e ∈ oj.after, Region.binds md e = true → listed.getD e.on false = true) {o : Oper} {j : Nat} (h : Reach md ops o j) :
    (∀ e ∈ o.after, Region.binds md e = true → listed.getD e.on false = true) → listed.getD j false = true := by
  induction h with
  | one he hb hj => intro ha; rw [← hj]; exact ha _ he hb
  | step he hb hk _ ih => intro ha; exact ih (hc _ _ hk (ha _ he hb))

/-- WHATEVER ORDER IS DRAWN -/
theorem wpAny_laxF {md : Region.Mode} {Q' : Exit → Act → World → Prop} (hC : ∀ w w', C w → Below w.heap.size w w' → C w') {a0 : Act} {S : Nat → Lx × Act} (hS0 : S 0 = ([], a0))
    {n : Nat} (hn : n ≤ ops.size) (hst : ∀ (k : Nat) (o : Oper), k < n → ops[k]? = some o → StepT P ops C o (S k).1 (S k).2 (S (k + 1)).1 (S (k + 1)).2)
    (hin : ∀ (k : Nat) (o : Oper) (d : Tmp), ops[k]? = some o → o.dst = some d → d < a0.tmps.size)
    (hone : ∀ (j k : Nat) (x y : Oper) (d : Tmp), ops[j]? = some x → ops[k]? = some y → x.dst = some d → y.dst = some d → j = k)
    (hlex : ∀ (i : Nat) (oi : Oper), ops[i]? = some oi → (∀ e ∈ oi.after, Region.binds md e = true → e.on < i) ∧ ∀ j oj, i < j → ops[j]? = some oj → (∃ e ∈ oj.after, Region.binds md e = true ∧ e.on = i) ∨ oi.apart ops oj = true)
    (F : List Tmp) (ob : Obj) (hF : ∀ (i : Nat) (oi : Oper) (d : Tmp), ops[i]? = some oi → oi.dst = some d → d ∈ F → oi.guard = none ∧ ∀ a1 w K Q, oi.wp P a1 w K Q ↔ K (a1.put (some d) (.pointer (some ⟨w.heap.size, 0, none⟩))) (w.alloc ob))
    (hwait : ∀ (i : Nat) (oi : Oper), n ≤ i → ops[i]? = some oi → ∀ j, j < n → Reach md ops oi j)
    (hfin : ∀ (fuel : Nat) (listed : Array Bool) (a1 : Act) (w1 : World), (∃ s, (List.range ops.size).filter (fun i => !listed.getD i true) = s ∧ s.length = fuel) → listed.size = ops.size → (∀ i, i < n → listed.getD i true = true) → (∀ j, n ≤ j → j < ops.size → listed.getD j true = false) → Rep C (S n).1 (S n).2 a1 w1 → Fresh ops F listed a1 w1 → wpAny P md ops Q' fuel listed a1 w1) :
    ∀ (fuel : Nat) (listed : Array Bool) (a1 : Act) (w1 : World), (∃ s, (List.range ops.size).filter (fun i => !listed.getD i true) = s ∧ s.length = fuel) → RunInv md n ops C a0 S listed a1 w1 → Fresh ops F listed a1 w1 → wpAny P md ops Q' fuel listed a1 w1 := by
  -- all that is not listed: none is ready only if none is left
  have hready : ∀ listed : Array Bool, listed.size = ops.size → Region.ready md ops listed = [] → ∀ i, i < ops.size → listed.getD i true = true := by
    intro listed hls hr i
    induction i using Nat.strongRecOn with
    | _ i ih =>
      intro hi
      rcases hb : listed.getD i true with _ | _
      · exfalso
        have : i ∈ Region.ready md ops listed := by
          refine mem_ready.2 ⟨hb, ops[i], Array.getElem?_eq_getElem hi, fun e he hbd => ?_⟩
          have h1 := (hlex i _ (Array.getElem?_eq_getElem hi)).1 e he hbd
          have h2 := ih e.on h1 (by omega)
          have h3 : e.on < listed.size := by omega
          simpa [h3] using h2
        rw [hr] at this
        cases this
      · rfl
  have hend : ∀ (fuel : Nat) (listed : Array Bool) (a1 : Act) (w1 : World), (∃ s, (List.range ops.size).filter (fun i => !listed.getD i true) = s ∧ s.length = fuel) → RunInv md n ops C a0 S listed a1 w1 → Fresh ops F listed a1 w1 → (∀ i, i < n → listed.getD i true = true) → wpAny P md ops Q' fuel listed a1 w1 := by
    intro fuel listed a1 w1 hcnt hI hJ hall
    have hsz := path_sizes hS0 hn hst n (Nat.le_refl _)
    refine hfin fuel listed a1 w1 hcnt hI.lsize hall hI.tail ⟨hI.world, hI.defers.trans hsz.2.symm, hI.size.trans hsz.1.symm, fun t => ?_⟩ hJ
    by_cases hw : ∃ (j : Nat) (oj : Oper), j < n ∧ ops[j]? = some oj ∧ oj.dst = some t
    · obtain ⟨j, oj, hjn, hj, hd⟩ := hw
      have hjl := (Array.getElem?_eq_some_iff.1 hj).1
      have hl : listed.getD j false = true := by
        have h1 := hall j hjn
        have h2 : j < listed.size := by rw [hI.lsize]; exact hjl
        simpa [h2] using h1
      have h1 := hI.done j oj t hj hl hd
      have h2 := path_other hS0 hn hst hin (t := t) (a1.tmps.getD t undef) w1 (j + 1) (n - (j + 1)) (by omega) (fun i oi h1 h2 hi hdi => by
        have := hone i j oi oj t hi hj hdi hd; omega)
      rw [show j + 1 + (n - (j + 1)) = n by omega] at h2
      exact h2.2 h1
    · have h1 := hI.rest t (fun j oj hj hl hd => by
        by_cases hjn : j < n
        · exact hw ⟨j, oj, hjn, hj, hd⟩
        · have hjl := (Array.getElem?_eq_some_iff.1 hj).1
          have := hI.tail j (by omega) hjl
          have h2 : j < listed.size := by rw [hI.lsize]; exact hjl
          simp [h2] at this hl
          rw [this] at hl; cases hl)
      have h2 := path_other hS0 hn hst hin (t := t) (a1.tmps.getD t undef) w1 0 n (by omega) (fun j oj _ h2 hj hd => hw ⟨j, oj, by omega, hj, hd⟩)
      rw [Nat.zero_add] at h2
      exact h2.2 ((slot0 hS0 t _ w1).2 h1)
  intro fuel
  induction fuel with
  | zero =>
    rintro listed a1 w1 ⟨s, hs, hlen⟩ hI hJ
    refine hend 0 listed a1 w1 ⟨s, hs, hlen⟩ hI hJ (fun i hi => ?_)
    have hnil : s = [] := List.eq_nil_of_length_eq_zero hlen
    subst hnil
    have := List.filter_eq_nil_iff.1 hs i (List.mem_range.2 (by omega))
    simpa using this
  | succ fuel ih =>
    rintro listed a1 w1 ⟨s, hs, hlen⟩ hI hJ
    by_cases hdone : ∀ i, i < n → listed.getD i true = true
    · exact hend (fuel + 1) listed a1 w1 ⟨s, hs, hlen⟩ hI hJ hdone
    refine ⟨fun h0 => absurd (fun i hi => hready listed hI.lsize h0 i (by omega)) hdone, fun i hi => ?_⟩
    obtain ⟨hun, oi, hoi, hall⟩ := mem_ready.1 hi
    have hin' : i < n := by
      rcases Nat.lt_or_ge i n with h | h
      · exact h
      · exfalso
        refine hdone (fun j hj => ?_)
        have h2 : j < listed.size := by rw [hI.lsize]; omega
        have h1 := (hwait i oi h hoi j hj).listed hI.closed hall
        simpa [h2] using h1
    have hil := (Array.getElem?_eq_some_iff.1 hoi).1
    have hill : i < listed.size := by rw [hI.lsize]; exact hil
    have hunf : listed.getD i false = false := by simpa [hill] using hun
    have hcount : ∃ s', (List.range ops.size).filter (fun j => !(listed.setIfInBounds i true).getD j true) = s' ∧ s'.length = fuel := by
      refine ⟨_, rfl, ?_⟩
      have hn : (List.range ops.size).Nodup := List.nodup_range
      have e : (List.range ops.size).filter (fun j => !(listed.setIfInBounds i true).getD j true) = ((List.range ops.size).filter fun j => !listed.getD j true).erase i := by
        rw [List.Nodup.erase_eq_filter (List.Pairwise.filter _ hn), List.filter_filter]
        apply List.filter_congr
        intro j hj
        by_cases hji : j = i
        · subst hji; simp [hill]
        · rw [getD_set_ne true (Ne.symm hji)]; simp [hji]
      rw [e, List.length_erase_of_mem (List.mem_filter.2 ⟨List.mem_range.2 hil, by simp only [hun]; rfl⟩), hs, hlen]
      rfl
    -- what the operation looks at is as the walk had it
    have hlook : ∀ t ∈ oi.looksAt ops, slotIs (S i).1 (S i).2 t (a1.tmps.getD t undef) w1 := by
      intro t ht
      have hback : (∀ (j : Nat) (oj : Oper), ops[j]? = some oj → oj.dst = some t → i ≤ j) → (∀ (j : Nat) (oj : Oper), ops[j]? = some oj → oj.dst = some t → listed.getD j false = false) → slotIs (S i).1 (S i).2 t (a1.tmps.getD t undef) w1 := by
        intro h1 h2
        have h3 := path_other hS0 hn hst hin (t := t) (a1.tmps.getD t undef) w1 0 i (by omega) (fun j oj _ hj ho hd => by have := h1 j oj ho hd; omega)
        rw [Nat.zero_add] at h3
        refine h3.2 ((slot0 hS0 t _ w1).2 (hI.rest t (fun j oj hj hl hd => ?_)))
        rw [h2 j oj hj hd] at hl; cases hl
      by_cases hw : ∃ (j : Nat) (oj : Oper), ops[j]? = some oj ∧ oj.dst = some t
      · obtain ⟨j, oj, hj, hd⟩ := hw
        have huniq : ∀ (j' : Nat) (oj' : Oper), ops[j']? = some oj' → oj'.dst = some t → j' = j := fun j' oj' h1 h2 => hone j' j oj' oj t h1 hj h2 hd
        rcases Nat.lt_trichotomy j i with hji | hji | hji
        · rcases (hlex j oj hj).2 i oi hji hoi with ⟨e, he, hb, heq⟩ | hap
          · have hl : listed.getD j false = true := by rw [← heq]; exact hall e he hb
            have h1 := hI.done j oj t hj hl hd
            have h2 := path_other hS0 hn hst hin (t := t) (a1.tmps.getD t undef) w1 (j + 1) (i - (j + 1)) (by omega) (fun j' oj' h1 _ h3 h4 => by have := huniq j' oj' h3 h4; omega)
            rw [show j + 1 + (i - (j + 1)) = i by omega] at h2
            exact h2.2 h1
          · exact absurd ht ((Oper.apart_spec hap).1 t hd)
        · subst hji
          refine hback (fun j' oj' h1 h2 => by have := huniq j' oj' h1 h2; omega) (fun j' oj' h1 h2 => by rw [huniq j' oj' h1 h2]; exact hunf)
        · rcases (hlex i oi hoi).2 j oj hji hj with ⟨e, he, hb, heq⟩ | hap
          · refine hback (fun j' oj' h1 h2 => by have := huniq j' oj' h1 h2; omega) (fun j' oj' h1 h2 => ?_)
            rw [huniq j' oj' h1 h2]
            rcases hlj : listed.getD j false with _ | _
            · rfl
            · have := hI.closed j oj hj hlj e he hb
              rw [heq, hunf] at this; cases this
          · exact absurd ht ((Oper.apart_spec hap).2.2 t hd)
      · exact hback (fun j oj h1 h2 => absurd ⟨j, oj, h1, h2⟩ hw) (fun j oj h1 h2 => absurd ⟨j, oj, h1, h2⟩ hw)
    have hsz := path_sizes hS0 hn hst i (by omega)
    have hsame : a1.tmps.size = (S i).2.tmps.size := hI.size.trans hsz.1.symm
    -- behind it
    have hnext : ∀ (v : Value) (w' : World), (∀ d, oi.dst = some d → slotIs (S (i + 1)).1 (S (i + 1)).2 d v w') → Below w1.heap.size w1 w' → RunInv md n ops C a0 S (listed.setIfInBounds i true) (a1.put oi.dst v) w' := by
      intro v w' hv hb
      have hget : ∀ t, oi.dst ≠ some t → (a1.put oi.dst v).tmps.getD t undef = a1.tmps.getD t undef := by
        intro t ht
        cases hd : oi.dst with
        | none => rfl
        | some d => rw [put_getD a1 d t v (by rw [hI.size]; exact hin i oi d hoi hd), if_neg (fun e => ht (by rw [hd, e]))]
      have hlist : ∀ j, (listed.setIfInBounds i true).getD j false = true → j = i ∨ listed.getD j false = true := by
        intro j hj
        by_cases hji : j = i
        · exact .inl hji
        · rw [getD_set_ne false (Ne.symm hji)] at hj; exact .inr hj
      refine ⟨hC _ _ hI.world hb, (put_defers _ _ _).trans hI.defers, (put_size _ _ _).trans hI.size, by simpa using hI.lsize, fun j oj hj hl e he hbd => ?_, fun j hnj hjl => ?_, fun j oj d hj hl hd => ?_, fun t ht => ?_⟩
      · rcases hlist j hl with rfl | hl
        · obtain rfl : oj = oi := by rw [hoi] at hj; simpa using hj.symm
          exact getD_set_true (hall e he hbd)
        · exact getD_set_true (hI.closed j oj hj hl e he hbd)
      · rw [getD_set_ne true (by omega)]; exact hI.tail _ hnj hjl
      · rcases hlist j hl with rfl | hl
        · obtain rfl : oj = oi := by rw [hoi] at hj; simpa using hj.symm
          rw [hd, put_getD a1 d d v (by rw [hI.size]; exact hin j oj d hj hd), if_pos rfl]
          exact hv d hd
        · have hne : oi.dst ≠ some d := by
            intro h
            have := hone i j oi oj d hoi hj h hd
            subst this
            rw [hunf] at hl; cases hl
          rw [hget d hne]
          exact (hI.done j oj d hj hl hd).keep hb
      · have hne : oi.dst ≠ some t := ht i oi hoi (by simp [hill])
        rw [hget t hne]
        exact hI.rest t (fun j oj hj hl => ht j oj hj (getD_set_true hl))
    have hlistF : ∀ j, (listed.setIfInBounds i true).getD j false = true → j = i ∨ listed.getD j false = true := by
      intro j hj
      by_cases hji : j = i
      · exact .inl hji
      · rw [getD_set_ne false (Ne.symm hji)] at hj; exact .inr hj
    have hfresh : ∀ (v : Value) (w' : World), (∀ d, oi.dst = some d → d ∈ F → v = .pointer (some ⟨w1.heap.size, 0, none⟩) ∧ w1.heap.size < w'.heap.size) → Below w1.heap.size w1 w' → Fresh ops F (listed.setIfInBounds i true) (a1.put oi.dst v) w' := by
      intro v w' hv hb
      have hget : ∀ t, oi.dst ≠ some t → (a1.put oi.dst v).tmps.getD t undef = a1.tmps.getD t undef := by
        intro t ht
        cases hd : oi.dst with
        | none => rfl
        | some d => rw [put_getD a1 d t v (by rw [hI.size]; exact hin i oi d hoi hd), if_neg (fun e => ht (by rw [hd, e]))]
      have hself : ∀ d, oi.dst = some d → (a1.put oi.dst v).tmps.getD d undef = v := by
        intro d hd
        rw [hd, put_getD a1 d d v (by rw [hI.size]; exact hin i oi d hoi hd), if_pos rfl]
      have hother : ∀ (j : Nat) (oj : Oper) (d : Tmp), ops[j]? = some oj → oj.dst = some d → j ≠ i → oi.dst ≠ some d := fun j oj d hj hd hji h => hji (hone j i oj oi d hj hoi hd h)
      refine ⟨fun j oj d hj hl hd hdF => ?_, fun j k oj ok d d' hj hk hlj hlk hd hd' hdF hdF' hne => ?_⟩
      · by_cases hji : j = i
        · subst hji
          obtain rfl : oj = oi := by rw [hoi] at hj; simpa using hj.symm
          obtain ⟨h1, h2⟩ := hv d hd hdF
          exact ⟨_, (hself d hd).trans h1, h2⟩
        · obtain ⟨bk, h1, h2⟩ := hJ.1 j oj d hj ((hlistF j hl).resolve_left hji) hd hdF
          exact ⟨bk, (hget d (hother j oj d hj hd hji)).trans h1, Nat.lt_of_lt_of_le h2 hb.size⟩
      · by_cases hji : j = i
        · subst hji
          obtain rfl : oj = oi := by rw [hoi] at hj; simpa using hj.symm
          have hki : k ≠ j := fun e => by
            subst e
            obtain rfl : ok = oj := by rw [hoi] at hk; simpa using hk.symm
            rw [hd] at hd'
            exact hne (by simpa using hd')
          obtain ⟨bk, h1, h2⟩ := hJ.1 k ok d' hk ((hlistF k hlk).resolve_left hki) hd' hdF'
          rw [hself d hd, hget d' (hother k ok d' hk hd' hki), h1, (hv d hd hdF).1]
          intro e
          simp at e
        · by_cases hki : k = i
          · subst hki
            obtain rfl : ok = oi := by rw [hoi] at hk; simpa using hk.symm
            obtain ⟨bk, h1, h2⟩ := hJ.1 j oj d hj ((hlistF j hlj).resolve_left hji) hd hdF
            rw [hself d' hd', hget d (hother j oj d hj hd hji), h1, (hv d' hd' hdF').1]
            intro e
            simp at e
          · rw [hget d (hother j oj d hj hd hji), hget d' (hother k ok d' hk hd' hki)]
            exact hJ.2 j k oj ok d d' hj hk ((hlistF j hlj).resolve_left hji) ((hlistF k hlk).resolve_left hki) hd hd' hdF hdF' hne
    have hkey : ∀ d, oi.dst = some d → (S i).1.lookup d = none := fun d hd => path_keys hS0 hn hst i (by omega) (fun j oj h1 h2 h3 => by have := hone j i oj oi d h2 hoi h3 hd; omega)
    have hstep := hst i oi hin' hoi
    unfold wpOp
    simp only [hoi]
    generalize hSi : S i = si at *
    generalize hSj : S (i + 1) = sj at *
    obtain ⟨Ii, ai⟩ := si
    obtain ⟨Ij, aj⟩ := sj
    simp only at hstep hlook hnext hsame hkey
    cases hstep with
    | skip hg hw =>
      rw [wanted_looks hg hsame hlook, hw]
      simp only [Bool.false_eq_true, if_false]
      refine ih _ _ _ hcount (hnext undef w1 (fun d hd => ?_) (Below.refl _ _)) (hfresh undef w1 (fun d hd hdF => ?_) (Below.refl _ _))
      · unfold slotIs
        rw [hkey d hd, hd]
        simp only
        rw [put_getD ai d d undef (by rw [← hsame, hI.size]; exact hin i oi d hoi hd), if_pos rfl]
      · have h1 := (hF i oi d hoi hd hdF).1
        unfold Region.wanted at hw
        rw [h1] at hw
        cases hw
    | val v hg hw h =>
      rw [wanted_looks hg hsame hlook, hw]
      simp only [if_true]
      refine .inl (with_fresh hI.size hin hoi hF (h a1 w1 hI.world hlook) (fun u w' hu hb hv => ih _ _ _ hcount (hnext u w' (fun d hd => ?_) hb) (hfresh u w' hv hb)))
      unfold slotIs
      rw [hkey d hd, hd]
      simp only
      rw [put_getD ai d d v (by rw [← hsame, hI.size]; exact hin i oi d hoi hd), if_pos rfl]
      exact hu
    | ty d R hd hg hw h =>
      rw [wanted_looks hg hsame hlook, hw]
      simp only [if_true]
      refine .inl (with_fresh hI.size hin hoi hF (h a1 w1 hI.world hlook) (fun u w' hu hb hv => ih _ _ _ hcount (hnext u w' (fun d' hd' => ?_) hb) (hfresh u w' hv hb)))
      obtain rfl : d = d' := by rw [hd] at hd'; simpa using hd'
      unfold slotIs
      rw [List.lookup_cons]
      simp only [BEq.rfl]
      exact hu

theorem rep_no (m j : Nat) (hl : (Array.replicate m false).getD j false = true) : False := by
  by_cases hi : j < m <;> simp [hi] at hl

/-- operations in one forced order, one behind the other -/
theorem tail_any {md : Region.Mode} {Q : Exit → Act → World → Prop} {l : List Oper} {n : Nat} (hlt : ∀ (i : Nat) (oi : Oper), l.toArray[i]? = some oi → ∀ e ∈ oi.after, Region.binds md e = true → e.on < i)
    (hch : ∀ (m i : Nat) (oi : Oper), n ≤ m → m < i → l.toArray[i]? = some oi → ∃ e ∈ oi.after, Region.binds md e = true ∧ e.on = m) :
    ∀ (r m : Nat) (listed : Array Bool) (a1 : Act) (w1 : World), m + r = l.length → n ≤ m → listed.size = l.toArray.size → (∀ i, i < m → listed.getD i true = true) → (∀ j, m ≤ j → j < l.toArray.size → listed.getD j true = false) →
      wpList P l.toArray Q (l.drop m) a1 w1 → wpAny P md l.toArray Q r listed a1 w1
  | 0, m, listed, a1, w1, hm, hnm, hls, hall, htail, hq => by
    have hnr : Region.ready md l.toArray listed = [] := by
      apply List.eq_nil_iff_forall_not_mem.2
      intro i hi
      obtain ⟨h0, o, ho, _⟩ := mem_ready.1 hi
      have h1 := (Array.getElem?_eq_some_iff.1 ho).1
      have := hall i (by simp at h1; omega)
      rw [this] at h0; cases h0
    rw [List.drop_eq_nil_of_le (by omega)] at hq
    exact wpAny_done hnr hq 0
  | r + 1, m, listed, a1, w1, hm, hnm, hls, hall, htail, hq => by
    have hml : m < l.length := by omega
    obtain ⟨o, ho⟩ : ∃ o, l[m]? = some o := ⟨l[m], by simp [hml]⟩
    have hon : l.toArray[m]? = some o := by simpa using ho
    have hdrop : l.drop m = o :: l.drop (m + 1) := by
      rw [List.drop_eq_getElem_cons hml]
      rw [List.getElem?_eq_getElem hml] at ho
      rw [Option.some.inj ho]
    rw [hdrop] at hq
    have hnl : listed.getD m true = false := htail m (Nat.le_refl _) (by simpa using hml)
    refine ⟨fun h0 => ?_, fun i hi => ?_⟩
    · exfalso
      have : m ∈ Region.ready md l.toArray listed := by
        refine mem_ready.2 ⟨hnl, o, hon, fun e he hb => ?_⟩
        have h1 := hlt m o hon e he hb
        have h2 := hall e.on h1
        have h3 : e.on < listed.size := by rw [hls]; simp; omega
        simpa [h3] using h2
      rw [h0] at this; cases this
    · obtain ⟨hun, oi, hoi, hal⟩ := mem_ready.1 hi
      have hil := (Array.getElem?_eq_some_iff.1 hoi).1
      obtain rfl : i = m := by
        rcases Nat.lt_trichotomy i m with h1 | h1 | h1
        · rw [hall i h1] at hun; cases hun
        · exact h1
        · exfalso
          obtain ⟨e, he, hb, heq⟩ := hch m i oi hnm h1 hoi
          have h2 := hal e he hb
          rw [heq] at h2
          have h3 : m < listed.size := by rw [hls]; simp; omega
          simp [h3] at h2 hnl
          rw [h2] at hnl; cases hnl
      have hmono : ∀ a2 w2, wpList P l.toArray Q (l.drop (i + 1)) a2 w2 → wpAny P md l.toArray Q r (listed.setIfInBounds i true) a2 w2 := fun a2 w2 h2 =>
        tail_any hlt hch r (i + 1) _ a2 w2 (by omega) (by omega) (by simpa using hls) (fun j hj => by
          by_cases hji : j = i
          · subst hji
            have h3 : j < listed.size := by rw [hls]; exact hil
            simp [h3]
          · rw [getD_set_ne true (Ne.symm hji)]; exact hall j (by omega)) (fun j hj hjl => by
          rw [getD_set_ne true (by omega)]; exact htail j (by omega) hjl) h2
      unfold wpOp
      simp only [hon]
      unfold wpList at hq
      split
      · rename_i hw
        rw [if_pos hw] at hq
        exact hq.imp (Oper.wp_mono hmono) (fun h => h)
      · rename_i hw
        rw [if_neg hw] at hq
        exact hmono _ _ hq

/-- the operations from n on wait for all before n (some by way of others), and each for the one ahead of it -/
def reachB (l : List Oper) : Nat → Oper → Nat → Bool
  | 0, _, _ => false
  | f + 1, o, j => o.after.any fun e => Region.binds .any e && (e.on == j || match l[e.on]? with
      | some o2 => reachB l f o2 j
      | none => false)
theorem reachB_is {l : List Oper} : ∀ (f : Nat) (o : Oper) (j : Nat), reachB l f o j = true → Reach .any l.toArray o j
  | 0, _, _, h => by cases h
  | f + 1, o, j, h => by
    unfold reachB at h
    obtain ⟨e, he, hb⟩ := Array.any_eq_true'.1 h
    simp only [Bool.and_eq_true, Bool.or_eq_true, beq_iff_eq] at hb
    rcases hb.2 with h1 | h1
    · exact .one he hb.1 h1
    · split at h1
      · rename_i o2 ho2
        exact .step he hb.1 (by simpa using ho2) (reachB_is f o2 j h1)
      · cases h1
def waitsFB (l : List Oper) (n : Nat) : Bool := (List.range l.length).all fun i => decide (i < n) || match l[i]? with
  | some o => ((List.range n).all fun j => reachB l 12 o j) && (List.range i).all fun m => decide (m < n) || o.after.any fun e => Region.binds .any e && e.on == m
  | none => false

/-- THE REGION: all but the last ones by the walk, whose new blocks are apart; then the last ones -/
theorem wp_region_laxF {id : Nat} {Q : Exit → Act → World → Prop} {a : Act} {w : World} {l : List Oper} (n : Nat) (hn : n ≤ l.length) (F : List Tmp) (ob : Obj)
    (hF : ∀ (i : Nat) (oi : Oper) (d : Tmp), l[i]? = some oi → oi.dst = some d → d ∈ F → oi.guard = none ∧ ∀ a1 w K Q, oi.wp P a1 w K Q ↔ K (a1.put (some d) (.pointer (some ⟨w.heap.size, 0, none⟩))) (w.alloc ob))
    (hFn : ∀ (i : Nat) (oi : Oper) (d : Tmp), l[i]? = some oi → oi.dst = some d → d ∈ F → i < n) (hFa : ∀ d ∈ F, ∃ (i : Nat) (oi : Oper), l[i]? = some oi ∧ oi.dst = some d)
    (hm : P.follows .mixedOrders = true) (hB : Region.lexB .any l.toArray = true) (hD : dstsB l a.tmps.size = true) (hW : waitsFB l n = true)
    (h : wpT P l.toArray (Below w.heap.size w) (fun a' w' => (∀ d d', d ∈ F → d' ∈ F → d ≠ d' → a'.tmps.getD d undef ≠ a'.tmps.getD d' undef) → wpList P l.toArray Q (l.drop n) a' w') (l.take n) [] a) : (Code.region id l.toArray true).wp P Q a w := by
  obtain ⟨S, hS0, hst, hfin⟩ := wpT_path (l.take n) [] a h
  have hB' : Region.lexFrom .any l.toArray l.toArray.size 0 (Array.replicate l.toArray.size false) = true := by
    simp only [Region.lexB, Bool.and_eq_true] at hB; exact hB.2
  have hlen : (l.take n).length = n := by rw [List.length_take]; omega
  have hlex : ∀ (i : Nat) (oi : Oper), l.toArray[i]? = some oi → (∀ e ∈ oi.after, Region.binds .any e = true → e.on < i) ∧ ∀ j oj, i < j → l.toArray[j]? = some oj → (∃ e ∈ oj.after, Region.binds .any e = true ∧ e.on = i) ∨ oi.apart l.toArray oj = true :=
    fun i oi hi => lexFrom_free _ 0 _ hB' (by simp) (fun i => by by_cases hi : i < l.length <;> simp [hi]; omega) (by simp) i oi (Nat.zero_le _) hi
  have hW' : ∀ (i : Nat) (oi : Oper), n ≤ i → l[i]? = some oi → (∀ j, j < n → Reach .any l.toArray oi j) ∧ ∀ m, n ≤ m → m < i → ∃ e ∈ oi.after, Region.binds .any e = true ∧ e.on = m := by
    intro i oi hi hoi
    have hil := (List.getElem?_eq_some_iff.1 hoi).1
    unfold waitsFB at hW
    have h1 := List.all_eq_true.1 hW i (List.mem_range.2 hil)
    rw [hoi] at h1
    simp only [Bool.or_eq_true, decide_eq_true_eq, Bool.and_eq_true] at h1
    rcases h1 with h1 | ⟨h1, h2⟩
    · omega
    refine ⟨fun j hj => reachB_is _ _ _ (List.all_eq_true.1 h1 j (List.mem_range.2 hj)), fun m hm1 hm2 => ?_⟩
    · have := List.all_eq_true.1 h2 m (List.mem_range.2 hm2)
      simp only [Bool.or_eq_true, decide_eq_true_eq] at this
      rcases this with h3 | h3
      · omega
      obtain ⟨e, he, hb⟩ := Array.any_eq_true'.1 h3
      simp only [Bool.and_eq_true, beq_iff_eq] at hb
      exact ⟨e, he, hb.1, hb.2⟩
  refine wp_region_any hm ?_
  refine wpAny_laxF (P := P) (ops := l.toArray) (C := Below w.heap.size w) (md := .any) (a0 := a) (S := S) (fun w1 w2 h1 h2 => h1.trans (h2.mono h1.size)) hS0 (n := n) (by simpa using hn) (fun k o' hk ho' => hst k o' (by rw [List.getElem?_take_of_lt hk]; simpa using ho'))
    (fun k o d hk hd => dsts_lt hD (k := k) (by simpa using hk) hd) (fun j k x y d hj hk hx hy => dsts_one hD (j := j) (k := k) (by simpa using hj) (by simpa using hk) hx hy)
    hlex F ob (fun i oi d hi => hF i oi d (by simpa using hi)) (fun i oi hi hoi j hj => ?_)
    (fun fuel listed a1 w1 ⟨s, hs, hcnt⟩ hls hall htail hr hfr => ?_) _ _ _ _ ⟨_, rfl, ?_⟩ (start_inv ⟨rfl, rfl, rfl, Nat.le_refl _, fun _ _ => rfl⟩) ⟨fun j oj d hj hl => ?_, fun j k oj ok d d' hj hk hl => ?_⟩
  · exact (hW' i oi hi (by simpa using hoi)).1 j hj
  · have hq := hfin a1 w1 (by rw [hlen]; exact hr) (fun d d' hd hd' hne => by
      obtain ⟨i, oi, hoi, hdi⟩ := hFa d hd
      obtain ⟨k, ok, hok, hdk⟩ := hFa d' hd'
      have g : ∀ (i : Nat) (oi : Oper) (d : Tmp), l[i]? = some oi → oi.dst = some d → d ∈ F → listed.getD i false = true := by
        intro i oi d h1 h2 h3
        have h4 := hall i (hFn i oi d h1 h2 h3)
        have h5 : i < listed.size := by rw [hls]; simpa using (List.getElem?_eq_some_iff.1 h1).1
        simpa [h5] using h4
      exact hfr.2 i k oi ok d d' (by simpa using hoi) (by simpa using hok) (g i oi d hoi hdi hd) (g k ok d' hok hdk hd') hdi hdk hd hd' hne)
    have hfuel : fuel = l.length - n := by
      rw [← hcnt, ← hs]
      have : (List.range l.toArray.size).filter (fun i => !listed.getD i true) = (List.range (l.length - n)).map (n + ·) := by
        have e : l.toArray.size = n + (l.length - n) := by simp; omega
        rw [e, List.range_add, List.filter_append]
        have h1 : (List.range n).filter (fun i => !listed.getD i true) = [] := by
          apply List.filter_eq_nil_iff.2
          intro i hi
          rw [hall i (List.mem_range.1 hi)]
          simp
        have h2 : ((List.range (l.length - n)).map (n + ·)).filter (fun i => !listed.getD i true) = (List.range (l.length - n)).map (n + ·) := by
          apply List.filter_eq_self.2
          intro i hi
          obtain ⟨k, hk, rfl⟩ := List.mem_map.1 hi
          have := List.mem_range.1 hk
          rw [htail (n + k) (by omega) (by omega)]
          rfl
        rw [h1, h2, List.nil_append]
      rw [this]; simp
    rw [hfuel]
    exact tail_any (n := n) (fun i oi hi => (hlex i oi hi).1) (fun m i oi h1 h2 hoi => (hW' i oi (by omega) (by simpa using hoi)).2 m h1 h2) _ n listed a1 w1 (by omega) (Nat.le_refl _) hls hall htail hq
  · rw [count_none]; simp
  · exact (rep_no _ _ hl).elim
  · exact (rep_no _ _ hl).elim

/-- no new blocks: the last operations wait for all others, some by way of another; at the end 'intro _' -/
theorem wp_laxW_list {id : Nat} {Q : Exit → Act → World → Prop} {w : World} {l : List Oper} {fs : List Value} {ds : List Deferred} (n : Nat) (hn : decide (n ≤ l.length) = true)
    (hm : P.follows .mixedOrders = true) (hB : Region.lexB .any l.toArray = true) (hD : dstsB l fs.length = true) (hW : waitsFB l n = true)
    (h : wpL P l.toArray (Below w.heap.size w) (fun a' w' => (∀ d d', d ∈ ([] : List Tmp) → d' ∈ ([] : List Tmp) → d ≠ d' → a'.tmps.getD d undef ≠ a'.tmps.getD d' undef) → wpList P l.toArray Q (l.drop n) a' w') ds (l.take n) [] fs) : (Code.region id l.toArray true).wp P Q ⟨fs.toArray, ds⟩ w :=
  wp_region_laxF n (of_decide_eq_true hn) [] (.cells #[] 0) (fun _ _ _ _ _ h => by cases h) (fun _ _ _ _ _ h => by cases h) (fun _ h => by cases h) hm hB (by simpa using hD) hW h
end
end Go.Own

end
section
namespace Go.Own
open Go.RowKit
section
variable {B : Nat} {w0 w : World} {Ps : List Asn} {b : Nat} {t : TypeId} {vs : List Value}
/-- some of its cells are written -/
theorem St.setMid (i : Nat) : ∀ (r : List Value) (o : Nat) (w : World) (Ps : List Asn) (vs : List Value), St B w0 w Ps → Ps[i]? = some (AVals b t vs) → o + r.length ≤ vs.length →
    St B w0 (w.setCells b o r) (Ps.set i (AVals b t (vs.take o ++ r ++ vs.drop (o + r.length))))
  | [], o, w, Ps, l, h, hi, hl => by
    have ee : l.take o ++ [] ++ l.drop (o + ([] : List Value).length) = l := by simp
    rw [ee]
    have hs : Ps.set i (AVals b t l) = Ps := by
      apply List.ext_getElem?
      intro j
      by_cases hj : j = i
      · subst hj
        rw [List.getElem?_set_self (List.getElem?_eq_some_iff.1 hi).1, hi]
      · rw [List.getElem?_set_ne (Ne.symm hj)]
    rw [hs]
    exact h
  | c :: r, o, w, Ps, l, h, hi, hl => by
    have put := h.storeV i hi o c
    have hlt : i < Ps.length := (List.getElem?_eq_some_iff.1 hi).1
    have h2 := St.setMid i r (o + 1) _ _ (l.set o c) put (by rw [List.getElem?_set_self hlt]) (by simp at hl ⊢; omega)
    rw [List.set_set] at h2
    have ho : o < l.length := by simp at hl; omega
    have ee : (l.set o c).take (o + 1) ++ r ++ (l.set o c).drop (o + 1 + r.length) = l.take o ++ (c :: r) ++ l.drop (o + (c :: r).length) := by
      have e0 : (l.set o c).take o = l.take o := by
        apply List.ext_getElem?
        intro j
        by_cases hj : j < o
        · rw [List.getElem?_take_of_lt hj, List.getElem?_take_of_lt hj, List.getElem?_set_ne (by omega)]
        · rw [List.getElem?_eq_none (by simp; omega), List.getElem?_eq_none (by simp; omega)]
      have e1 : (l.set o c).drop (o + 1 + r.length) = l.drop (o + (c :: r).length) := by
        apply List.ext_getElem?
        intro j
        rw [List.getElem?_drop, List.getElem?_drop, List.getElem?_set_ne (by omega)]
        congr 1
        simp
        omega
      rw [List.take_succ_eq_append_getElem (by simpa using ho), e0, e1]
      simp
    rw [ee] at h2
    exact h2
/-- an array of one's own, whole, as a slice of one's own -/
theorem St.valsRow {n : Nat} (H : St B w0 w (AVals b t vs :: Ps)) (hn : vs.length = n) (hm : n ≤ maxLen) : St B w0 w (ARow t 1 (.slice (some ⟨b, 0, none⟩) n n) n vs :: Ps) := by
  obtain ⟨S, hS, _, put⟩ := H.at 0 rfl
  refine put S w (ARow t 1 (.slice (some ⟨b, 0, none⟩) n n) n vs) ⟨⟨by rw [hn]; omega, .inr ⟨b, n, vs.toArray, rfl, Nat.zero_le _, hS.1, Nat.le_refl _, hm, by simp [hn], by simp [← hn]⟩⟩, fun k => ?_⟩ (Step.refl S w)
  rw [hS.2 k]
  simp [Value.ownBlock, eq_comm]
end
end Go.Own
namespace Go.PagM
/-- the page as it stands ahead of the bits -/
def raw (c d : UInt8) : Bs := c :: d :: (List.replicate 125 0 ++ [90])
theorem raw_len (c d : UInt8) : (raw c d).length = 128 := by simp [raw]
theorem raw_set (c d e : UInt8) : (raw c d).set 0 e = raw e d := rfl
theorem raw_laid (f : Frm) (h : f.data.length ≤ 125) : (raw (UInt8.ofNat (headN f)) (UInt8.ofNat f.data.length)).take 2 ++ f.data ++ (raw (UInt8.ofNat (headN f)) (UInt8.ofNat f.data.length)).drop (2 + f.data.length) = laid f := by
  unfold raw laid
  rw [Nat.add_comm 2, List.drop_succ_cons, List.drop_succ_cons, List.drop_append_of_le_length (by simp; omega), List.drop_replicate]
  rfl
end Go.PagM
namespace Go.Proofs.YtllmogicmimjlaaDoor
open Go.RowKit Go.Own
namespace Pag
open Go.PagM Byt

theorem info_page (l : Bs) (h : l.length = 128) : (Tryd.prog.info? 59).map (·.size) = some (l.map byteV).toArray.size := by
  have e : (l.map byteV).toArray.size = 128 := by simp [h]
  have h0 : (Tryd.prog.info? 59).map (fun i => i.size) = some 128 := by kernel_rfl
  rw [e]
  exact h0
theorem info_pageL (l : Bs) (h : l.length = 128) : (Tryd.prog.info? 59).map (·.size) = some (l.map byteV).length := by
  have h0 : (Tryd.prog.info? 59).map (fun i => i.size) = some 128 := by kernel_rfl
  rw [List.length_map, h]
  exact h0
theorem zero_page : (Tryd.prog.info? 59).bind (·.zero) = some (.agg ((List.replicate 128 (0 : UInt8)).map byteV).toArray) := by kernel_rfl
theorem built_raw (x y : Int) : Tryd.prog.built 59 [(0, .int .u8 x), (1, .int .u8 y), (127, .int .u8 90)] = some (.int .u8 x :: .int .u8 y :: ((List.replicate 125 (0 : UInt8) ++ [90]).map byteV)).toArray := by kernel_rfl
set_option maxRecDepth 100000 in
theorem or64 : ∀ k : Nat, k < 64 → bits .or .u8 (k : Int) 64 = ((k + 64 : Nat) : Int) := by decide
set_option maxRecDepth 100000 in
theorem or128 : ∀ k : Nat, k < 128 → bits .or .u8 (k : Int) 128 = ((k + 128 : Nat) : Int) := by decide
set_option maxRecDepth 100000 in
theorem and63 : ∀ k : Nat, k < 256 → bits .and .u8 (k : Int) 63 = ((k % 64 : Nat) : Int) := by decide
set_option maxRecDepth 100000 in
theorem and64 : ∀ k : Nat, k < 256 → (bits .and .u8 (k : Int) 64 != 0) = decide (k / 64 % 2 = 1) := by decide
set_option maxRecDepth 100000 in
theorem and128 : ∀ k : Nat, k < 256 → (bits .and .u8 (k : Int) 128 != 0) = decide (k / 128 = 1) := by decide
/-- copy onto a part of an array of one's own -/
theorem wpList_a8_copy {ops : Array Oper} {rest : List Oper} {o : Oper} {a : Act} {w : World} {Q : Exit → Act → World → Prop} {B : Nat} {w0 : World} {Ps : List Asn} (hgd : o.guard = none) (d s : Operand)
    (ho : o.op = .call { callee := .builtin .copy, args := #[d, s], argTypes := #[22, 22] }) (H : Own.St B w0 w Ps) (i : Nat) {b k nn cc : Nat} {t : TypeId} {l : List UInt8} (hi : Ps[i]? = some (A8 b t l)) (hd : a.eval d = .slice (some ⟨b, k, none⟩) nn cc)
    (bo : Option Addr) (m c : Nat) (news : List UInt8) (hx : a.eval s = .slice bo m c) (hl : news.length = m) (hmn : m ≤ nn) (hkl : k + nn ≤ l.length) (hno : bo = none → m = 0)
    (hc : ∀ a, bo = some a → ∀ j u, (news.map byteV)[j]? = some u → w.cell? (a.add j) = some u)
    (h : ∀ w', Own.St B w0 w' (Ps.set i (A8 b t (l.take k ++ news ++ l.drop (k + m)))) → wpList Tryd.prog ops Q rest (a.put o.dst (goInt m)) w') : wpList Tryd.prog ops Q (o :: rest) a w := by
  refine wpList_plain hgd fun K hK => ?_
  have hset := Own.St.setMid i (news.map byteV) k w Ps (l.map byteV) H hi (by simp; omega)
  have e : AVals b t ((l.map byteV).take k ++ news.map byteV ++ (l.map byteV).drop (k + (news.map byteV).length)) = A8 b t (l.take k ++ news ++ l.drop (k + m)) := by
    unfold A8
    rw [List.map_append, List.map_append, List.map_take, List.map_drop, List.length_map, hl]
  rw [e] at hset
  have hcells : ∀ j, j < (news.map byteV).length → (w.cell? ⟨b, k + j, none⟩).isSome = true ∧ w.frozen? ⟨b, k + j, none⟩ = false := by
    intro j hj
    rw [List.length_map] at hj
    obtain ⟨h1, h2⟩ := A8.cell H i hi (k + j) (by omega)
    exact ⟨by rw [h1]; rfl, h2⟩
  have hrun : (Builtin.copy_ #[22, 22] o.type #[.slice (some ⟨b, k, none⟩) nn cc, .slice bo m c]).run Tryd.prog w = .ok (goInt m) (w.setCells b k (news.map byteV)) := by
    cases bo with
    | none =>
      have hm := hno rfl
      subst hm
      obtain rfl : news = [] := List.eq_nil_of_length_eq_zero hl
      exact run_copy_none (P := Tryd.prog) w 22 22 o.type 5 _ none nn cc 0 c Tryd.underlying22 info8 (Nat.min_eq_left (Nat.zero_le _))
    | some ad =>
      have := run_copy_cells (P := Tryd.prog) w 22 22 o.type 5 b k nn cc ad m c (news.map byteV) Tryd.underlying22 info8 (by rw [List.length_map, hl]; exact (Nat.min_eq_left hmn).symm) (hc ad rfl) (fun j hj => (hcells j hj).1) (fun j hj => (hcells j hj).2) (byteV_one _)
      rw [List.length_map, hl] at this
      exact this
  unfold Oper.wp
  simp [execOp, ho, resolve, invoke, builtin, hd, hx, hrun, Result.andThen]
  exact hK _ _ (h _ hset)

set_option maxRecDepth 10000 in
set_option maxHeartbeats 8000000 in
theorem lay_any (f : Frm) (ao : Option Addr) (n cap : Nat) (w : World) (hg : Given w ao n cap f.data) (hk : f.kind.toNat ≤ 63) (hn : n ≤ 125) :
    Calls Tryd.prog 25 #[frV f.kind.toNat f.first f.last (.slice ao n cap)] w fun e w' => e = .returned (.agg ((laid f).map byteV).toArray) ∧ Below w.heap.size w w' := by
  have H := Own.St.start w
  have hdl := hg.size
  have hrl := raw_laid f (by rw [hdl]; exact hn)
  have hhl := headN_lt hk
  obtain ⟨X, hX⟩ : ∃ X, X = laid f := ⟨_, rfl⟩
  rw [← hX] at hrl ⊢
  have hXl : X.length = 128 := by rw [hX]; exact laid_len f (by rw [hdl]; exact hn)
  obtain ⟨h, hh⟩ : ∃ h, h = UInt8.ofNat (headN f) := ⟨_, rfl⟩
  have hhn : h.toNat = headN f := by rw [hh]; exact ofNat_toNat _ hhl
  rw [← hh] at hrl
  obtain ⟨d, hd⟩ : ∃ d, d = UInt8.ofNat f.data.length := ⟨_, rfl⟩
  have hdn : (n : Int) = (d.toNat : Int) := by rw [hd, ofNat_toNat _ (by omega), hdl]
  rw [← hd, hdl] at hrl
  unfold headN at hhn
  obtain ⟨kind, first, last, data⟩ := f
  simp only at hg hk hdl hrl hhn ⊢
  obtain ⟨k, hkk⟩ : ∃ k, k = kind.toNat := ⟨_, rfl⟩
  rw [← hkk] at hk hhn ⊢
  have HD := Lib.hid hdl
  have HRL := Lib.hid hrl
  have HXL := Lib.hid hXl
  have HG := Lib.hid hg
  obtain ⟨z, hz⟩ : ∃ z, z = ((List.replicate 128 (0 : UInt8)).map byteV).toArray := ⟨_, rfl⟩
  have ZP : Hid ((Tryd.prog.info? 59).bind (·.zero) = some (.agg z)) := by rw [hz]; exact zero_page
  obtain ⟨br, hbr⟩ : ∃ b, b = (w.alloc (.cells (frC k first last (.slice ao n cap)) 62)).heap.size := ⟨_, rfl⟩
  obtain ⟨W2, hW2⟩ : ∃ W, W = (w.alloc (.cells (frC k first last (.slice ao n cap)) 62)).alloc (.cells z 59) := ⟨_, rfl⟩
  obtain ⟨bp, hbp⟩ : ∃ b, b = W2.heap.size := ⟨_, rfl⟩
  obtain ⟨W3, hW3⟩ : ∃ W, W = W2.alloc (.cells z 59) := ⟨_, rfl⟩
  have hbox := ((H.boxV 62 (frC k first last (.slice ao n cap)).toList))
  have hb1 := A8.box hbox 59 (List.replicate 128 0)
  rw [← hz] at hb1
  simp only at hb1
  rw [← hbr, ← hW2] at hb1
  have hb2 := A8.box hb1 59 (List.replicate 128 0)
  rw [← hz, ← hbp, ← hW3] at hb2
  obtain ⟨d0, hd0⟩ : ∃ d0, d0 = raw kind d := ⟨_, rfl⟩
  have hdl0 : d0.length = 128 := by rw [hd0]; exact raw_len _ _
  have TH := Lib.hid (A8.there hb2 0 rfl d0 (by rw [hdl0]; rfl))
  have h4 := A8.setAll hb2 0 rfl d0 (by rw [hdl0]; rfl)
  simp only [List.set_cons_zero] at h4
  obtain ⟨W4, hW4⟩ : ∃ W, W = W3.setCells bp 0 (d0.map byteV).toArray.toList := ⟨_, rfl⟩
  rw [← hW4] at h4
  have HW2 := Lib.hid hW2
  have HW3 := Lib.hid hW3
  have HW4 := Lib.hid hW4
  have HBR := Lib.hid hbr
  have HBP := Lib.hid hbp
  have H4 := Lib.hid h4
  have IB := Lib.hid (info_page d0 hdl0)
  have OB := Lib.hid (one8 d0)
  have BE : Hid (Tryd.prog.built 59 [(0, .int .u8 (k : Int)), (1, .int .u8 (d.toNat : Int)), (127, .int .u8 90)] = some (d0.map byteV).toArray) := by
    rw [hd0, hkk]; exact built_raw _ _
  have q0 := (hb2.cellV 2 rfl 0 rfl).1
  have q3 := (hb2.cellV 2 rfl 3 rfl).1
  have q02 := (hb1.cellV 1 rfl 0 rfl).1
  have q32 := (hb1.cellV 1 rfl 3 rfl).1
  have IX := Lib.hid (info_page X hXl)
  have OX := Lib.hid (one8 X)
  have HD0 := Lib.hid hd0
  have HDL := Lib.hid hdl0
  have HKK := Lib.hid hkk
  clear hz hW4 hW2 hW3 hbr hbp hbox hb2 hb1 hd0 hdl0 h4 hkk hd hdl hrl hXl hg H hh hX
  cases first <;> cases last
  · simp only [if_false, Bool.false_eq_true, Nat.add_zero] at hhn
    have p1 := (H4.out.cellV 2 rfl 1 rfl).1
    have c0 := A8.cell H4.out 0 rfl 0 (by rw [HDL.out]; decide)
    rw [HD0.out, show ((raw kind d).getD 0 0).toNat = k from HKK.out.symm] at c0
    have p2 := (H4.out.cellV 2 rfl 2 rfl).1
    have hfin : kind = h := UInt8.toNat_inj.1 (by have := HKK.out; omega)
    subst hfin
    have H7 := H4.out
    simp only [HD0.out] at H7
    have H7 := Lib.hid H7
    clear hhn 
    go_enter Tryd.func25, Tryd.ntmps25
    go_wp2_with (first
      | (refine Own.wpList_allocZ rfl 59 rfl z ZP.out ?_; rw [← HBR.out, ← HW2.out])
      | (refine Own.wpList_allocZ rfl 59 rfl z ZP.out ?_; rw [← HBP.out, ← HW3.out])
      | (refine Own.wpList_built rfl 59 #[(0, .tmp 5), (1, .tmp 9), (127, .const (.int .u8 90))] rfl (d0.map byteV).toArray ?_ ?_; · (simp only [List.map_toArray, List.map_cons, List.map_nil, List.toList_toArray]; exact BE.out))
      | (refine wpList_store_mid rfl 59 (.tmp 3) (.tmp 10) rfl bp 0 (d0.map byteV).toArray rfl rfl TH.out IB.out OB.out ?_; rw [← HW4.out]))
    generalize W4 = W7 at H7 ⊢
    have GW := HG.out.later H7.out.below
    have P3 : Hid (∀ wx, Below W7.heap.size W7 wx → wx.cell? ⟨w.heap.size, 3, none⟩ = some (.slice ao n cap)) := fun wx hwx => ((H7.out.later hwx).cellV 2 rfl 3 rfl).1
    refine wp_laxW_list 3 (by kernel_rfl) (by kernel_rfl) (by kernel_rfl) (by kernel_rfl) (by kernel_rfl) ?_
    simp only [List.take_succ_cons, List.take_zero, List.drop_succ_cons, List.drop_zero]
    refine wpL_run1 (x := .tmp 3) (.pointer (some ⟨bp, 0, none⟩)) (.slice (some ⟨bp, 2, none⟩) 126 126) (by kernel_rfl) (by kernel_rfl) (by kernel_rfl) (by kernel_rfl) (by kernel_rfl) (fun wx ρ hwx h0 hc => by simp [go_sem, h0, hc]) ?_
    refine wpL_run1 (x := .tmp 1) (.pointer (some ⟨w.heap.size, 0, none⟩)) (.pointer (some ⟨w.heap.size, 3, none⟩)) (by kernel_rfl) (by kernel_rfl) (by kernel_rfl) (by kernel_rfl) (by kernel_rfl) (fun wx ρ hwx h0 hc => by simp [go_sem, h0]) ?_
    refine wpL_run1 (x := .tmp 24) (.pointer (some ⟨w.heap.size, 3, none⟩)) (.slice ao n cap) (by kernel_rfl) (by kernel_rfl) (by kernel_rfl) (by kernel_rfl) (by kernel_rfl) (fun wx ρ hwx h0 hc => by simp [go_sem, h0, P3.out wx hwx]) ?_
    refine wpL_end (by kernel_rfl) (fun w8 hw8 => ?_)
    simp only [FinL, setL, List.set_cons_zero, List.set_cons_succ]
    intro _
    have H8 := Lib.hid (H7.out.later hw8)
    have G8 := GW.later hw8
    have HC := Lib.hid (vcells G8.view)
    have HNO := Lib.hid (given_nil G8)
    clear hw8 P3 H7 G8 GW
    go_wp2_with (first
      | (refine wpList_a8_copy rfl (.tmp 23) (.tmp 25) rfl H8.out 0 (l := raw kind d) rfl rfl ao n cap data rfl HD.out (by omega) (by rw [raw_len]; decide) (fun h => (HNO.out h).1) HC.out ?_; intro w9 h9; rw [HRL.out] at h9; simp only [List.set_cons_zero] at h9; have ROW := Lib.hid (A8.row h9 0 rfl); have TH9 := Lib.hid (A8.there h9 1 rfl X (by rw [HXL.out]; rfl)); have LAST := Lib.hid (A8.setAll h9 1 rfl X (by rw [HXL.out]; rfl)); clear h9)
      | (refine wpList_load_row rfl 59 (.tmp 3) rfl bp rfl 59 _ (0, 0) _ ROW.out Tryd.underlying59 rfl IX.out ?_)
      | (refine wpList_store_mid rfl 59 (.tmp 2) (.tmp 27) rfl br 0 (X.map byteV).toArray rfl rfl TH9.out IX.out OX.out ?_))
    have END := Lib.hid (A8.row LAST.out 1 rfl)
    refine bodyPost_ret (results_cell_row rfl _ _ br 59 _ (0, 0) _ rfl END.out Tryd.underlying59 rfl IX.out) rfl ?_
    exact ⟨rfl, LAST.out.below⟩
  · simp only [if_true, if_false, Bool.false_eq_true, Nat.add_zero] at hhn
    have p1 := (H4.out.cellV 2 rfl 1 rfl).1
    have c0 := A8.cell H4.out 0 rfl 0 (by rw [HDL.out]; decide)
    rw [HD0.out, show ((raw kind d).getD 0 0).toNat = k from HKK.out.symm] at c0
    have p2 := (H4.out.cellV 2 rfl 2 rfl).1
    obtain ⟨u2, hu2⟩ : ∃ u, u = UInt8.ofNat (k + 128) := ⟨_, rfl⟩
    have hu2n : u2.toNat = k + 128 := by rw [hu2]; exact ofNat_toNat _ (by omega)
    have e128 : bits .or .u8 (k : Int) 128 = (u2.toNat : Int) := by rw [or128 (k) (by omega), hu2n]
    have H6 := Lib.hid (A8.store H4.out 0 rfl 0 u2)
    have hfin : u2 = h := UInt8.toNat_inj.1 (by have := HKK.out; omega)
    subst hfin
    have H7 := H6.out
    simp only [List.set_cons_zero, HD0.out, raw_set] at H7
    have H7 := Lib.hid H7
    clear hhn hu2 hu2n H6
    go_enter Tryd.func25, Tryd.ntmps25
    go_wp2_with (first
      | (refine Own.wpList_allocZ rfl 59 rfl z ZP.out ?_; rw [← HBR.out, ← HW2.out])
      | (refine Own.wpList_allocZ rfl 59 rfl z ZP.out ?_; rw [← HBP.out, ← HW3.out])
      | (refine Own.wpList_built rfl 59 #[(0, .tmp 5), (1, .tmp 9), (127, .const (.int .u8 90))] rfl (d0.map byteV).toArray ?_ ?_; · (simp only [List.map_toArray, List.map_cons, List.map_nil, List.toList_toArray]; exact BE.out))
      | (refine wpList_store_mid rfl 59 (.tmp 3) (.tmp 10) rfl bp 0 (d0.map byteV).toArray rfl rfl TH.out IB.out OB.out ?_; rw [← HW4.out]))
    have H7 := H7.out
    generalize (W4.setCell ⟨bp, 0, none⟩ (.int .u8 (u2.toNat : Int))) = W7 at H7 ⊢
    have H7 := Lib.hid H7
    have GW := HG.out.later H7.out.below
    have P3 : Hid (∀ wx, Below W7.heap.size W7 wx → wx.cell? ⟨w.heap.size, 3, none⟩ = some (.slice ao n cap)) := fun wx hwx => ((H7.out.later hwx).cellV 2 rfl 3 rfl).1
    refine wp_laxW_list 3 (by kernel_rfl) (by kernel_rfl) (by kernel_rfl) (by kernel_rfl) (by kernel_rfl) ?_
    simp only [List.take_succ_cons, List.take_zero, List.drop_succ_cons, List.drop_zero]
    refine wpL_run1 (x := .tmp 3) (.pointer (some ⟨bp, 0, none⟩)) (.slice (some ⟨bp, 2, none⟩) 126 126) (by kernel_rfl) (by kernel_rfl) (by kernel_rfl) (by kernel_rfl) (by kernel_rfl) (fun wx ρ hwx h0 hc => by simp [go_sem, h0, hc]) ?_
    refine wpL_run1 (x := .tmp 1) (.pointer (some ⟨w.heap.size, 0, none⟩)) (.pointer (some ⟨w.heap.size, 3, none⟩)) (by kernel_rfl) (by kernel_rfl) (by kernel_rfl) (by kernel_rfl) (by kernel_rfl) (fun wx ρ hwx h0 hc => by simp [go_sem, h0]) ?_
    refine wpL_run1 (x := .tmp 24) (.pointer (some ⟨w.heap.size, 3, none⟩)) (.slice ao n cap) (by kernel_rfl) (by kernel_rfl) (by kernel_rfl) (by kernel_rfl) (by kernel_rfl) (fun wx ρ hwx h0 hc => by simp [go_sem, h0, P3.out wx hwx]) ?_
    refine wpL_end (by kernel_rfl) (fun w8 hw8 => ?_)
    simp only [FinL, setL, List.set_cons_zero, List.set_cons_succ]
    intro _
    have H8 := Lib.hid (H7.out.later hw8)
    have G8 := GW.later hw8
    have HC := Lib.hid (vcells G8.view)
    have HNO := Lib.hid (given_nil G8)
    clear hw8 P3 H7 G8 GW
    go_wp2_with (first
      | (refine wpList_a8_copy rfl (.tmp 23) (.tmp 25) rfl H8.out 0 (l := raw u2 d) rfl rfl ao n cap data rfl HD.out (by omega) (by rw [raw_len]; decide) (fun h => (HNO.out h).1) HC.out ?_; intro w9 h9; rw [HRL.out] at h9; simp only [List.set_cons_zero] at h9; have ROW := Lib.hid (A8.row h9 0 rfl); have TH9 := Lib.hid (A8.there h9 1 rfl X (by rw [HXL.out]; rfl)); have LAST := Lib.hid (A8.setAll h9 1 rfl X (by rw [HXL.out]; rfl)); clear h9)
      | (refine wpList_load_row rfl 59 (.tmp 3) rfl bp rfl 59 _ (0, 0) _ ROW.out Tryd.underlying59 rfl IX.out ?_)
      | (refine wpList_store_mid rfl 59 (.tmp 2) (.tmp 27) rfl br 0 (X.map byteV).toArray rfl rfl TH9.out IX.out OX.out ?_))
    have END := Lib.hid (A8.row LAST.out 1 rfl)
    refine bodyPost_ret (results_cell_row rfl _ _ br 59 _ (0, 0) _ rfl END.out Tryd.underlying59 rfl IX.out) rfl ?_
    exact ⟨rfl, LAST.out.below⟩
  · simp only [if_true, if_false, Bool.false_eq_true, Nat.add_zero] at hhn
    have p1 := (H4.out.cellV 2 rfl 1 rfl).1
    have c0 := A8.cell H4.out 0 rfl 0 (by rw [HDL.out]; decide)
    rw [HD0.out, show ((raw kind d).getD 0 0).toNat = k from HKK.out.symm] at c0
    obtain ⟨u1, hu1⟩ : ∃ u, u = UInt8.ofNat (k + 64) := ⟨_, rfl⟩
    have hu1n : u1.toNat = k + 64 := by rw [hu1]; exact ofNat_toNat _ (by omega)
    have e64 : bits .or .u8 (k : Int) 64 = (u1.toNat : Int) := by rw [or64 k (by omega), hu1n]
    have H5 := Lib.hid (A8.store H4.out 0 rfl 0 u1)
    have g0 := A8.cell H5.out 0 rfl 0 (by rw [List.length_set, HDL.out]; decide)
    rw [HD0.out, raw_set, show ((raw u1 d).getD 0 0).toNat = u1.toNat from rfl] at g0
    have p2 := (H5.out.cellV 2 rfl 2 rfl).1
    have hfin : u1 = h := UInt8.toNat_inj.1 (by have := HKK.out; omega)
    subst hfin
    have H7 := H5.out
    simp only [List.set_cons_zero, HD0.out, raw_set] at H7
    have H7 := Lib.hid H7
    clear hhn hu1 hu1n H5
    go_enter Tryd.func25, Tryd.ntmps25
    go_wp2_with (first
      | (refine Own.wpList_allocZ rfl 59 rfl z ZP.out ?_; rw [← HBR.out, ← HW2.out])
      | (refine Own.wpList_allocZ rfl 59 rfl z ZP.out ?_; rw [← HBP.out, ← HW3.out])
      | (refine Own.wpList_built rfl 59 #[(0, .tmp 5), (1, .tmp 9), (127, .const (.int .u8 90))] rfl (d0.map byteV).toArray ?_ ?_; · (simp only [List.map_toArray, List.map_cons, List.map_nil, List.toList_toArray]; exact BE.out))
      | (refine wpList_store_mid rfl 59 (.tmp 3) (.tmp 10) rfl bp 0 (d0.map byteV).toArray rfl rfl TH.out IB.out OB.out ?_; rw [← HW4.out]))
    have H7 := H7.out
    generalize (W4.setCell ⟨bp, 0, none⟩ (.int .u8 (u1.toNat : Int))) = W7 at H7 ⊢
    have H7 := Lib.hid H7
    have GW := HG.out.later H7.out.below
    have P3 : Hid (∀ wx, Below W7.heap.size W7 wx → wx.cell? ⟨w.heap.size, 3, none⟩ = some (.slice ao n cap)) := fun wx hwx => ((H7.out.later hwx).cellV 2 rfl 3 rfl).1
    refine wp_laxW_list 3 (by kernel_rfl) (by kernel_rfl) (by kernel_rfl) (by kernel_rfl) (by kernel_rfl) ?_
    simp only [List.take_succ_cons, List.take_zero, List.drop_succ_cons, List.drop_zero]
    refine wpL_run1 (x := .tmp 3) (.pointer (some ⟨bp, 0, none⟩)) (.slice (some ⟨bp, 2, none⟩) 126 126) (by kernel_rfl) (by kernel_rfl) (by kernel_rfl) (by kernel_rfl) (by kernel_rfl) (fun wx ρ hwx h0 hc => by simp [go_sem, h0, hc]) ?_
    refine wpL_run1 (x := .tmp 1) (.pointer (some ⟨w.heap.size, 0, none⟩)) (.pointer (some ⟨w.heap.size, 3, none⟩)) (by kernel_rfl) (by kernel_rfl) (by kernel_rfl) (by kernel_rfl) (by kernel_rfl) (fun wx ρ hwx h0 hc => by simp [go_sem, h0]) ?_
    refine wpL_run1 (x := .tmp 24) (.pointer (some ⟨w.heap.size, 3, none⟩)) (.slice ao n cap) (by kernel_rfl) (by kernel_rfl) (by kernel_rfl) (by kernel_rfl) (by kernel_rfl) (fun wx ρ hwx h0 hc => by simp [go_sem, h0, P3.out wx hwx]) ?_
    refine wpL_end (by kernel_rfl) (fun w8 hw8 => ?_)
    simp only [FinL, setL, List.set_cons_zero, List.set_cons_succ]
    intro _
    have H8 := Lib.hid (H7.out.later hw8)
    have G8 := GW.later hw8
    have HC := Lib.hid (vcells G8.view)
    have HNO := Lib.hid (given_nil G8)
    clear hw8 P3 H7 G8 GW
    go_wp2_with (first
      | (refine wpList_a8_copy rfl (.tmp 23) (.tmp 25) rfl H8.out 0 (l := raw u1 d) rfl rfl ao n cap data rfl HD.out (by omega) (by rw [raw_len]; decide) (fun h => (HNO.out h).1) HC.out ?_; intro w9 h9; rw [HRL.out] at h9; simp only [List.set_cons_zero] at h9; have ROW := Lib.hid (A8.row h9 0 rfl); have TH9 := Lib.hid (A8.there h9 1 rfl X (by rw [HXL.out]; rfl)); have LAST := Lib.hid (A8.setAll h9 1 rfl X (by rw [HXL.out]; rfl)); clear h9)
      | (refine wpList_load_row rfl 59 (.tmp 3) rfl bp rfl 59 _ (0, 0) _ ROW.out Tryd.underlying59 rfl IX.out ?_)
      | (refine wpList_store_mid rfl 59 (.tmp 2) (.tmp 27) rfl br 0 (X.map byteV).toArray rfl rfl TH9.out IX.out OX.out ?_))
    have END := Lib.hid (A8.row LAST.out 1 rfl)
    refine bodyPost_ret (results_cell_row rfl _ _ br 59 _ (0, 0) _ rfl END.out Tryd.underlying59 rfl IX.out) rfl ?_
    exact ⟨rfl, LAST.out.below⟩
  · simp only [if_true] at hhn
    have p1 := (H4.out.cellV 2 rfl 1 rfl).1
    have c0 := A8.cell H4.out 0 rfl 0 (by rw [HDL.out]; decide)
    rw [HD0.out, show ((raw kind d).getD 0 0).toNat = k from HKK.out.symm] at c0
    obtain ⟨u1, hu1⟩ : ∃ u, u = UInt8.ofNat (k + 64) := ⟨_, rfl⟩
    have hu1n : u1.toNat = k + 64 := by rw [hu1]; exact ofNat_toNat _ (by omega)
    have e64 : bits .or .u8 (k : Int) 64 = (u1.toNat : Int) := by rw [or64 k (by omega), hu1n]
    have H5 := Lib.hid (A8.store H4.out 0 rfl 0 u1)
    have g0 := A8.cell H5.out 0 rfl 0 (by rw [List.length_set, HDL.out]; decide)
    rw [HD0.out, raw_set, show ((raw u1 d).getD 0 0).toNat = u1.toNat from rfl] at g0
    have p2 := (H5.out.cellV 2 rfl 2 rfl).1
    obtain ⟨u2, hu2⟩ : ∃ u, u = UInt8.ofNat (u1.toNat + 128) := ⟨_, rfl⟩
    have hu2n : u2.toNat = u1.toNat + 128 := by rw [hu2]; exact ofNat_toNat _ (by omega)
    have e128 : bits .or .u8 (u1.toNat : Int) 128 = (u2.toNat : Int) := by rw [or128 (u1.toNat) (by omega), hu2n]
    have H6 := Lib.hid (A8.store H5.out 0 rfl 0 u2)
    have hfin : u2 = h := UInt8.toNat_inj.1 (by have := HKK.out; omega)
    subst hfin
    have H7 := H6.out
    simp only [List.set_cons_zero, HD0.out, raw_set] at H7
    have H7 := Lib.hid H7
    clear hhn hu1 hu1n H5 hu2 hu2n H6
    go_enter Tryd.func25, Tryd.ntmps25
    go_wp2_with (first
      | (refine Own.wpList_allocZ rfl 59 rfl z ZP.out ?_; rw [← HBR.out, ← HW2.out])
      | (refine Own.wpList_allocZ rfl 59 rfl z ZP.out ?_; rw [← HBP.out, ← HW3.out])
      | (refine Own.wpList_built rfl 59 #[(0, .tmp 5), (1, .tmp 9), (127, .const (.int .u8 90))] rfl (d0.map byteV).toArray ?_ ?_; · (simp only [List.map_toArray, List.map_cons, List.map_nil, List.toList_toArray]; exact BE.out))
      | (refine wpList_store_mid rfl 59 (.tmp 3) (.tmp 10) rfl bp 0 (d0.map byteV).toArray rfl rfl TH.out IB.out OB.out ?_; rw [← HW4.out]))
    have H7 := H7.out
    generalize ((W4.setCell ⟨bp, 0, none⟩ (.int .u8 (u1.toNat : Int))).setCell ⟨bp, 0, none⟩ (.int .u8 (u2.toNat : Int))) = W7 at H7 ⊢
    have H7 := Lib.hid H7
    have GW := HG.out.later H7.out.below
    have P3 : Hid (∀ wx, Below W7.heap.size W7 wx → wx.cell? ⟨w.heap.size, 3, none⟩ = some (.slice ao n cap)) := fun wx hwx => ((H7.out.later hwx).cellV 2 rfl 3 rfl).1
    refine wp_laxW_list 3 (by kernel_rfl) (by kernel_rfl) (by kernel_rfl) (by kernel_rfl) (by kernel_rfl) ?_
    simp only [List.take_succ_cons, List.take_zero, List.drop_succ_cons, List.drop_zero]
    refine wpL_run1 (x := .tmp 3) (.pointer (some ⟨bp, 0, none⟩)) (.slice (some ⟨bp, 2, none⟩) 126 126) (by kernel_rfl) (by kernel_rfl) (by kernel_rfl) (by kernel_rfl) (by kernel_rfl) (fun wx ρ hwx h0 hc => by simp [go_sem, h0, hc]) ?_
    refine wpL_run1 (x := .tmp 1) (.pointer (some ⟨w.heap.size, 0, none⟩)) (.pointer (some ⟨w.heap.size, 3, none⟩)) (by kernel_rfl) (by kernel_rfl) (by kernel_rfl) (by kernel_rfl) (by kernel_rfl) (fun wx ρ hwx h0 hc => by simp [go_sem, h0]) ?_
    refine wpL_run1 (x := .tmp 24) (.pointer (some ⟨w.heap.size, 3, none⟩)) (.slice ao n cap) (by kernel_rfl) (by kernel_rfl) (by kernel_rfl) (by kernel_rfl) (by kernel_rfl) (fun wx ρ hwx h0 hc => by simp [go_sem, h0, P3.out wx hwx]) ?_
    refine wpL_end (by kernel_rfl) (fun w8 hw8 => ?_)
    simp only [FinL, setL, List.set_cons_zero, List.set_cons_succ]
    intro _
    have H8 := Lib.hid (H7.out.later hw8)
    have G8 := GW.later hw8
    have HC := Lib.hid (vcells G8.view)
    have HNO := Lib.hid (given_nil G8)
    clear hw8 P3 H7 G8 GW
    go_wp2_with (first
      | (refine wpList_a8_copy rfl (.tmp 23) (.tmp 25) rfl H8.out 0 (l := raw u2 d) rfl rfl ao n cap data rfl HD.out (by omega) (by rw [raw_len]; decide) (fun h => (HNO.out h).1) HC.out ?_; intro w9 h9; rw [HRL.out] at h9; simp only [List.set_cons_zero] at h9; have ROW := Lib.hid (A8.row h9 0 rfl); have TH9 := Lib.hid (A8.there h9 1 rfl X (by rw [HXL.out]; rfl)); have LAST := Lib.hid (A8.setAll h9 1 rfl X (by rw [HXL.out]; rfl)); clear h9)
      | (refine wpList_load_row rfl 59 (.tmp 3) rfl bp rfl 59 _ (0, 0) _ ROW.out Tryd.underlying59 rfl IX.out ?_)
      | (refine wpList_store_mid rfl 59 (.tmp 2) (.tmp 27) rfl br 0 (X.map byteV).toArray rfl rfl TH9.out IX.out OX.out ?_))
    have END := Lib.hid (A8.row LAST.out 1 rfl)
    refine bodyPost_ret (results_cell_row rfl _ _ br 59 _ (0, 0) _ rfl END.out Tryd.underlying59 rfl IX.out) rfl ?_
    exact ⟨rfl, LAST.out.below⟩
end Pag
end Go.Proofs.YtllmogicmimjlaaDoor

end
section
namespace Go.Proofs.YtllmogicmimjlaaDoor
open Go.RowKit Go.Own
namespace Pag
open Go.PagM Byt
theorem manyByte : Many Tryd.prog 22 5 1 1 := ⟨Tryd.underlying22, by kernel_rfl, by decide⟩
set_option maxHeartbeats 800000 in
/-- bytes.Clone of cells that lie anywhere -/
theorem cloneBytes {B : Nat} {w0 w : World} {Ps : List Asn} (H : Own.St B w0 w Ps) (a : Addr) (n cap : Nat) (l : PagM.Bs) (hl : l.length = n) (hc : ∀ j u, (l.map byteV)[j]? = some u → w.cell? (a.add j) = some u) (hb : n ≤ 100000) :
    Calls Tryd.prog 33 #[.slice (some a) n cap] w fun e w' => ∃ a' c', e = .returned (.slice a' n c') ∧ Own.St B w0 w' (AB a' n c' l :: Ps) := by
  have H1 := Lib.hid (H.emptyRow 5 1)
  have HL : Hid ((l.map byteV).length = n * 1) := by show (l.map byteV).length = n * 1; simp [hl]
  have HN : Hid (∀ a', some a = some a' → ∀ j u, (l.map byteV)[j]? = some u → (w.alloc (.cells #[] 5)).cell? (a'.add j) = some u) := by
    intro a' ha j u hu
    cases ha
    exact cell_alloc (hc j u hu) _
  clear H hc
  have hq := eqlNil (P := Tryd.prog) w 22 _ (some a) n cap Tryd.underlying22
  simp only [Option.isNone_some] at hq
  go_enter Tryd.func33, Tryd.ntmps33
  go_wp2_with (refine wpList_many_append manyByte rfl (.tmp 5) (.tmp 6) rfl H1.out 0 rfl rfl (some a) n cap (l.map byteV) rfl (by intro h; cases h) HL.out HN.out (byteV_one _) (by omega) (by decide) ?_; intro a2 c2 w2 h2; simp only [List.set_cons_zero, Nat.zero_add, List.nil_append] at h2 ⊢; have H2 := Lib.hid h2; clear h2)
  go_ret
  exact ⟨_, _, rfl, H2.out⟩
theorem range_box {B : Nat} {w0 w : World} {Ps : List Asn} {b : Nat} {t : TypeId} {cs : List Value} (H : Own.St B w0 w Ps) (i : Nat) (hi : Ps[i]? = some (AVals b t cs)) : w.rangeAt b 0 cs := fun j v hv => by
  rw [Nat.zero_add]
  exact (H.cellV i hi j hv).1
theorem load_pageE (l : PagM.Bs) (hl : l.length = 128) {o : Oper} {x : Tmp} (ho : o.op = .load 59 (.tmp x)) {b k : Nat} (ρ : Operand → Value) {w : World} (hr : w.rangeAt b k (l.map byteV)) (h0 : ρ (.tmp x) = .pointer (some ⟨b, k, none⟩)) : (execOp ρ o).run Tryd.prog w = .ok (.value (.agg (l.map byteV).toArray)) w := by
  have := run_loadAt_mid (P := Tryd.prog) w b k 59 (l.map byteV) _ hr Tryd.underlying59 rfl (info_pageL l hl)
  unfold execOp
  simp only [ho, h0, Sem.run_bind, this, Result.andThen_ok, Sem.run_pure]
theorem info_frameL (cs : List Value) (h : cs.length = 4) : (Tryd.prog.info? 62).map (·.size) = some cs.length := by
  have h0 : (Tryd.prog.info? 62).map (fun i => i.size) = some 4 := by kernel_rfl
  rw [h]
  exact h0
theorem load_frameE (cs : List Value) (hl : cs.length = 4) {o : Oper} {x : Tmp} (ho : o.op = .load 62 (.tmp x)) {b k : Nat} (ρ : Operand → Value) {w : World} (hr : w.rangeAt b k cs) (h0 : ρ (.tmp x) = .pointer (some ⟨b, k, none⟩)) : (execOp ρ o).run Tryd.prog w = .ok (.value (.agg cs.toArray)) w := by
  have := run_loadAt_mid (P := Tryd.prog) w b k 62 cs _ hr Tryd.underlying62 rfl (info_frameL cs hl)
  unfold execOp
  simp only [ho, h0, Sem.run_bind, this, Result.andThen_ok, Sem.run_pure]
theorem bytes_eq (a b : PagM.Bs) : decide (a.map (fun x => (x.toNat : Int)) = b.map (fun x => (x.toNat : Int))) = decide (a = b) := by
  apply decide_eq_decide.2
  constructor
  · intro h
    exact (List.map_inj_right (fun x y h => UInt8.toNat_inj.1 (by omega))).1 h
  · rintro rfl; rfl
theorem bytes_ints (l : PagM.Bs) : (l.map (fun x => (x.toNat : Int))).map (Value.int .u8) = l.map byteV := by
  rw [List.map_map]; rfl
theorem neq_pageE {o : Oper} {x y : Tmp} (ho : o.op = .binOp .neq 59 (.tmp x) (.tmp y) 59) {a b : PagM.Bs} (ha : a.length = 128) (hb : b.length = 128) {v : Bool} (hv : decide (a = b) = v) (ρ : Operand → Value) (w : World)
    (h0 : ρ (.tmp x) = .agg (a.map byteV).toArray) (h1 : ρ (.tmp y) = .agg (b.map byteV).toArray) : (execOp ρ o).run Tryd.prog w = .ok (.value (.bool (!v))) w := by
  have h := run_equalIn_ints (P := Tryd.prog) 9998 59 5 .u8 (a.map (fun x => (x.toNat : Int))) (b.map (fun x => (x.toNat : Int))) (by simp [ha, hb]) (by rw [List.length_map, ha]; exact Tryd.underlying59) Tryd.underlying5 (fun w => by kernel_rfl) (fun w => by kernel_rfl) w
  rw [bytes_eq, hv, bytes_ints, bytes_ints] at h
  have h' : (Op.equalIn 10000 59 (.agg (a.map byteV).toArray) (.agg (b.map byteV).toArray)).run Tryd.prog w = .ok v w := h
  unfold execOp
  simp only [ho, h0, h1]
  generalize (a.map byteV).toArray = A at h' ⊢
  generalize (b.map byteV).toArray = B at h' ⊢
  simp [go_sem, h']

theorem cut_arr {o : Oper} {x y : Tmp} (ho : o.op = .slice 59 (.tmp x) (some (.const (.int .i64 2))) (some (.tmp y)) none) (b dn : Nat) (hd : dn ≤ 125) (ρ : Operand → Value) (w : World) (h0 : ρ (.tmp x) = .pointer (some ⟨b, 0, none⟩)) (h1 : ρ (.tmp y) = .int .i64 (2 + (dn : Int))) (hc : ρ (.const (.int .i64 2)) = .int .i64 2) :
    (execOp ρ o).run Tryd.prog w = .ok (.value (.slice (some ⟨b, 2, none⟩) dn 126)) w := by
  obtain ⟨q, hq⟩ : ∃ q, q = 2 + dn := ⟨_, rfl⟩
  rw [show (2 : Int) + (dn : Int) = (q : Int) by omega] at h1
  have a1 : q ≤ 128 := by omega
  have a2 : (q : Int) ≤ 128 := by omega
  have a3 : (2 : Int) ≤ (q : Int) := by omega
  have a4 : 2 ≤ q := by omega
  have a5 : q - 2 = dn := by omega
  have a6 : (q : Int) - 2 = (dn : Int) := by omega
  simp [execOp, ho, h0, h1, hc, go_sem, a2, a3, a5, add_of]
set_option maxRecDepth 10000 in
set_option maxHeartbeats 4000000 in
theorem frame_any (p : PagM.Bs) (hl : p.length = 128) (h1 : (p.getD 1 0).toNat ≤ 125) (w : World) :
    Calls Tryd.prog 44 #[.agg (p.map byteV).toArray] w fun e w' => ∃ ao cap, e = .returned (frV (guess p).kind.toNat (guess p).first (guess p).last (.slice ao (guess p).data.length cap)) ∧ Own.St w.heap.size w w' [AB ao (guess p).data.length cap (guess p).data] := by
  obtain ⟨gk, hgk⟩ : ∃ x, x = (guess p).kind := ⟨_, rfl⟩
  obtain ⟨gf, hgf⟩ : ∃ x, x = (guess p).first := ⟨_, rfl⟩
  obtain ⟨gl, hgl⟩ : ∃ x, x = (guess p).last := ⟨_, rfl⟩
  obtain ⟨gd, hgd⟩ : ∃ x, x = (guess p).data := ⟨_, rfl⟩
  rw [← hgk, ← hgf, ← hgl, ← hgd]
  obtain ⟨a, ha⟩ : ∃ a, a = p.getD 0 0 := ⟨_, rfl⟩
  obtain ⟨d, hd⟩ : ∃ d, d = p.getD 1 0 := ⟨_, rfl⟩
  have ha8 : a.toNat ≤ 255 := by have := a.toNat_lt; omega
  have hgdl : gd.length = d.toNat := by rw [hgd, hd]; exact (guess_small p hl h1).2
  rw [← hd] at h1
  have ek : bits .and .u8 (a.toNat : Int) 63 = (gk.toNat : Int) := by
    have : gk.toNat = a.toNat % 64 := by rw [hgk, ha]; unfold guess; exact ofNat_toNat _ (by omega)
    rw [and63 a.toNat (by omega), this]
  have ef : (bits .and .u8 (a.toNat : Int) 64 != 0) = gf := by
    rw [and64 a.toNat (by omega), hgf, ha]; rfl
  have el : (bits .and .u8 (a.toNat : Int) 128 != 0) = gl := by
    rw [and128 a.toNat (by omega), hgl, ha]; rfl
  have hbox := A8.box (Own.St.start w) 59 p
  have hbx2 := hbox.boxV 62 [.int .u8 0, .bool false, .bool false, .slice none 0 0]
  simp only [size_alloc'] at hbx2
  have c0 := (A8.cell hbx2 1 rfl 0 (by rw [hl]; decide)).1
  have c1 := (A8.cell hbx2 1 rfl 1 (by rw [hl]; decide)).1
  rw [← ha] at c0
  rw [← hd] at c1
  have CL : Hid (Calls Tryd.prog 33 #[.slice (some ⟨w.heap.size, 2, none⟩) d.toNat 126] ((w.alloc (.cells (p.map byteV).toArray 59)).alloc (.cells #[.int .u8 0, .bool false, .bool false, .slice none 0 0] 62)) fun e w' => ∃ a' c', e = .returned (.slice a' d.toNat c') ∧ Own.St w.heap.size w w' [AB a' d.toNat c' gd, AVals (w.heap.size + 1) 62 [.int .u8 0, .bool false, .bool false, .slice none 0 0], A8 w.heap.size 59 p]) := by
    refine cloneBytes hbx2 _ _ _ gd hgdl ?_ (by omega)
    intro j u hu
    have hj := (List.getElem?_eq_some_iff.1 hu).1
    rw [List.length_map, hgdl] at hj
    have h2 := (A8.cell hbx2 1 rfl (2 + j) (by rw [hl]; omega)).1
    rw [add_of, h2, ← hu, hgd]
    unfold guess
    simp only
    rw [List.getElem?_map, List.getElem?_take_of_lt (by rw [← hd]; exact hj), List.getElem?_drop, List.getElem?_eq_getElem (by rw [hl]; omega), List.getD_eq_getElem?_getD, List.getElem?_eq_getElem (by rw [hl]; omega)]
    rfl
  have HGDL := Lib.hid hgdl
  have HP := Lib.hid hl
  clear hbox hbx2 hgk hgf hgl hgd ha hd hgdl hl
  go_enter Tryd.func44, Tryd.ntmps44
  go_wp2_with (refine Byt.wpList_val rfl (cut_arr rfl w.heap.size d.toNat h1 _ _ rfl rfl rfl) ?_)
  refine CL.out.mono ?_
  clear CL c0 c1
  rintro e w3 ⟨a3, c3, rfl, h3⟩
  have H3 := Lib.hid h3
  have q0 := h3.cellV 1 rfl 0 rfl
  have q1 := h3.cellV 1 rfl 1 rfl
  have q2 := h3.cellV 1 rfl 2 rfl
  have q3 := h3.cellV 1 rfl 3 rfl
  have h7 := (((h3.storeV 1 rfl 0 (.int .u8 (gk.toNat : Int))).storeV 1 rfl 1 (.bool gf)).storeV 1 rfl 2 (.bool gl)).storeV 1 rfl 3 (.slice a3 d.toNat c3)
  have H7 := Lib.hid h7
  clear h3 h7
  go_wp2
  refine bodyPost_ret (results_cell_row rfl _ _ (w.heap.size + 1) 62 _ (0, 0) _ rfl (H7.out.rowV 1 rfl) Tryd.underlying62 rfl (info_frame _ rfl)) rfl ?_
  rw [HGDL.out]
  exact ⟨a3, c3, rfl, (H7.out.swap2.drop 1).drop2⟩
end Pag
end Go.Proofs.YtllmogicmimjlaaDoor

end
section
namespace Go.Proofs.YtllmogicmimjlaaDoor
open Go.RowKit Go.Own
namespace Pag
open Go.PagM Byt
theorem takeNew_err (x : Frm × Nat) (hx : x = (zeroF, 90)) {w w' : World} (h : Below w.heap.size w w') : TakeNew x w (.returned (.tuple #[.agg #[.int .u8 0, .bool false, .bool false, .slice none 0 0], errP 90])) w' := by
  subst hx
  exact ⟨none, 0, rfl, ⟨.inl rfl, rfl, ⟨Nat.le_refl _, Nat.zero_le _⟩, fun _ => rfl⟩, .inl rfl, h⟩
theorem view_range {w : World} {D : Nat → Prop} {g o : Nat} {l : PagM.Bs} (h : View w D (some ⟨g, o, none⟩) l) : w.rangeAt g o (l.map byteV) := fun j v hv => by
  have := vcells h _ rfl j v hv
  rwa [add_of] at this
set_option maxRecDepth 10000 in
set_option maxHeartbeats 8000000 in
theorem take_new (ao : Option Addr) (n cap : Nat) (p : PagM.Bs) (w : World) (hg : Given w ao n cap p) (hb : n ≤ 1000000) :
    Calls Tryd.prog 26 #[.slice ao n cap] w (TakeNew (PagM.take p) w) := by
  obtain ⟨X, hX⟩ : ∃ X, X = PagM.take p := ⟨_, rfl⟩
  rw [← hX]
  have HN := Lib.hid hg.size
  by_cases h128 : ((n : Int) != 128) = true
  · have HX : Hid (X = (zeroF, 90)) := by
      show X = _
      have h2 : ¬ n = 128 := by simp at h128; omega
      rw [hX]; unfold PagM.take; rw [if_neg]; unfold isPage; rw [HN.out]; simp [h2]
    have H2 := Lib.hid ((Own.St.start w).boxV 62 [.int .u8 0, .bool false, .bool false, .slice none 0 0])
    clear hX hg
    go_enter Tryd.func26, Tryd.ntmps26
    go_wp2
    refine bodyPost_ret (results_cell_two rfl _ _ w.heap.size 62 _ (0, 0) _ _ rfl rfl (H2.out.rowV 0 rfl) Tryd.underlying62 rfl (info_frame _ rfl)) rfl ?_
    exact takeNew_err X HX.out H2.out.below
  have hn : n = 128 := by simp at h128; omega
  subst hn
  clear h128 hb
  obtain ⟨g, o, rfl, _, hlt, c0⟩ := vat hg.view (k := 0) (by rw [hg.size]; decide)
  have c1 := vcell hg.view (k := 1) (by rw [hg.size]; decide)
  obtain ⟨d, hd⟩ : ∃ d, d = p.getD 1 0 := ⟨_, rfl⟩
  rw [← hd] at c1
  have hroom := hg.room
  unfold maxLen at hroom
  have hd8 : d.toNat ≤ 255 := by have := d.toNat_lt; omega
  have c1' : (w.alloc (.cells #[.int .u8 0, .bool false, .bool false, .slice none 0 0] 62)).cell? ⟨g, o + 1, none⟩ = some (.int .u8 (d.toNat : Int)) := cell_alloc c1 _
  by_cases hd125 : (125 : Int) < (d.toNat : Int)
  · have HX : Hid (X = (zeroF, 90)) := by
      show X = _
      have h2 : ¬ d.toNat ≤ 125 := by omega
      rw [hX]; unfold PagM.take; rw [if_neg]; unfold isPage; rw [← hd]; simp [h2]
    have H2 := Lib.hid ((Own.St.start w).boxV 62 [.int .u8 0, .bool false, .bool false, .slice none 0 0])
    clear hX hg hd c0 c1
    go_enter Tryd.func26, Tryd.ntmps26
    go_wp2
    refine bodyPost_ret (results_cell_two rfl _ _ w.heap.size 62 _ (0, 0) _ _ rfl rfl (H2.out.rowV 0 rfl) Tryd.underlying62 rfl (info_frame _ rfl)) rfl ?_
    exact takeNew_err X HX.out H2.out.below
  · have hd5 : d.toNat ≤ 125 := by omega
    obtain ⟨g63, gdl⟩ := guess_small p hg.size (by rw [← hd]; exact hd5)
    rw [← hd] at gdl
    have FR : Hid (∀ wx, Calls Tryd.prog 44 #[.agg (p.map byteV).toArray] wx fun e w' => ∃ ao cap, e = .returned (frV (guess p).kind.toNat (guess p).first (guess p).last (.slice ao (guess p).data.length cap)) ∧ Own.St wx.heap.size wx w' [AB ao (guess p).data.length cap (guess p).data]) := fun wx => frame_any p hg.size (by rw [← hd]; exact hd5) wx
    obtain ⟨sm, hsm⟩ : ∃ b, b = decide (laid (guess p) = p) := ⟨_, rfl⟩
    have HX0 : X = if sm = true then (guess p, 0) else (zeroF, 90) := by
      rw [hX]
      unfold PagM.take isPage
      rw [HN.out, ← hd, ← hsm, show decide ((128 : Nat) = 128) = true from rfl, show decide (d.toNat ≤ 125) = true from decide_eq_true hd5]
      simp
    have LL : Hid ((laid (guess p)).length = 128) := laid_len _ (by rw [gdl]; exact hd5)
    obtain ⟨gu, hgu⟩ : ∃ x, x = guess p := ⟨_, rfl⟩
    rw [← hgu] at HX0 hsm g63 gdl FR LL
    obtain ⟨gk, gf, gl, gd⟩ := gu
    simp only at g63 gdl FR
    have HX := Lib.hid HX0
    have HSM := Lib.hid hsm
    have HGD := Lib.hid gdl
    obtain ⟨z, hz⟩ : ∃ z, z = ((List.replicate 128 (0 : UInt8)).map byteV).toArray := ⟨_, rfl⟩
    have ZP : Hid ((Tryd.prog.info? 59).bind (·.zero) = some (.agg z)) := by rw [hz]; exact zero_page
    have h2 := ((Own.St.start w).boxV 62 [.int .u8 0, .bool false, .bool false, .slice none 0 0])
    have RG : Hid ((w.alloc (.cells #[.int .u8 0, .bool false, .bool false, .slice none 0 0] 62)).rangeAt g o (p.map byteV)) := view_range (hg.later h2.below).view
    obtain ⟨W2, hW2⟩ : ∃ W, W = w.alloc (.cells #[.int .u8 0, .bool false, .bool false, .slice none 0 0] 62) := ⟨_, rfl⟩
    rw [← hW2] at h2
    obtain ⟨b4, hb4⟩ : ∃ b, b = W2.heap.size := ⟨_, rfl⟩
    obtain ⟨W3, hW3⟩ : ∃ W, W = W2.alloc (.cells z 59) := ⟨_, rfl⟩
    have h3 := A8.box h2 59 (List.replicate 128 0)
    rw [← hz, ← hb4, ← hW3] at h3
    have TH := Lib.hid (A8.there h3 0 rfl p (by rw [hg.size]; rfl))
    have h4 := A8.setAll h3 0 rfl p (by rw [hg.size]; rfl)
    simp only [List.set_cons_zero] at h4
    obtain ⟨W4, hW4⟩ : ∃ W, W = W3.setCells b4 0 (p.map byteV).toArray.toList := ⟨_, rfl⟩
    rw [← hW4] at h4
    have IB := Lib.hid (info_page p hg.size)
    have IL := Lib.hid (info_pageL p hg.size)
    have OB := Lib.hid (one8 p)
    have ROW4 := Lib.hid (A8.row h4 0 rfl)
    have HW2 := Lib.hid hW2
    have HW3 := Lib.hid hW3
    have HW4 := Lib.hid hW4
    have HB4 := Lib.hid hb4
    have H4 := Lib.hid h4
    have FC := Lib.hid (FR.out W4)
    have hat : ∀ w, (Instr.arrayAt 59 (.slice (some ⟨g, o, none⟩) 128 cap)).run Tryd.prog w = .ok (.pointer (some ⟨g, o, none⟩)) w := fun w => run_arrayAt w 59 _ 128 _ 128 cap Tryd.underlying59 (Nat.le_refl _)
    clear FR hX HX0 hsm hg hd c0 c1 hgu gdl hz h2 h3 h4 hW2 hW3 hW4 hb4
    go_enter Tryd.func26, Tryd.ntmps26
    go_wp2_with (first
      | (refine wpList_load_mid rfl 59 (.tmp 17) rfl g o rfl (p.map byteV) _ RG.out Tryd.underlying59 rfl IL.out ?_)
      | (refine Own.wpList_allocZ rfl 59 rfl z ZP.out ?_; rw [← HW2.out, ← HB4.out, ← HW3.out])
      | (refine wpList_store_mid rfl 59 (.tmp 4) (.tmp 18) rfl b4 0 (p.map byteV).toArray rfl rfl TH.out IB.out OB.out ?_; rw [← HW4.out])
      | (refine wpList_load_row rfl 59 (.tmp 4) rfl b4 rfl 59 _ (0, 0) _ ROW4.out Tryd.underlying59 rfl IB.out ?_))
    refine FC.out.mono ?_
    clear FC RG TH ROW4 c1'
    rintro e w5 ⟨a5, c5, rfl, h5⟩
    obtain ⟨S5, hS5, hge, _⟩ := h5.at 0 rfl
    have h6 := H4.out.adopt h5.below (AB a5 gd.length c5 gd) hS5 hge
    have h7 := h6.boxV 62 (frC gk.toNat gf gl (.slice a5 gd.length c5)).toList
    rw [HGD.out] at h7 ⊢
    have H7 := Lib.hid h7
    clear h5 h6 h7 hS5 hge
    go_wp2_with (fail)
    obtain ⟨b5, hb5⟩ : ∃ b, b = w5.heap.size := ⟨_, rfl⟩
    have h7 := H7.out
    obtain ⟨W7, hW7⟩ : ∃ W, W = w5.alloc (.cells (frC gk.toNat gf gl (.slice a5 d.toNat c5)) 62) := ⟨_, rfl⟩
    rw [← hW7, ← hb5]
    rw [← hW7, ← hb5] at h7
    have H7 := Lib.hid h7
    have HG7 : Hid (Given W7 a5 d.toNat c5 gd) := given_own h7 1 rfl
    clear hb5 h7 hW7
    have R5 : Hid (∀ wx, Below W7.heap.size W7 wx → wx.rangeAt b5 0 (frC gk.toNat gf gl (.slice a5 d.toNat c5)).toList) := fun wx hwx => range_box (H7.out.later hwx) 0 rfl
    have R4 : Hid (∀ wx, Below W7.heap.size W7 wx → wx.rangeAt b4 0 (p.map byteV)) := fun wx hwx => range_box (t := 59) (H7.out.later hwx) 2 rfl
    have CL : Hid (∀ wx, Below W7.heap.size W7 wx → Calls Tryd.prog 25 #[frV gk.toNat gf gl (.slice a5 d.toNat c5)] wx fun e w' => e = .returned (.agg ((laid ⟨gk, gf, gl, gd⟩).map byteV).toArray) ∧ Below wx.heap.size wx w') := fun wx hwx => lay_any ⟨gk, gf, gl, gd⟩ a5 d.toNat c5 wx (HG7.out.later hwx) g63 hd5
    obtain ⟨nq, hnq⟩ : ∃ b, b = !sm := ⟨_, rfl⟩
    have HNQ := Lib.hid hnq
    have HS2 : Hid (decide (laid ⟨gk, gf, gl, gd⟩ = p) = sm) := HSM.out.symm
    refine wp_lax_list (by kernel_rfl) (by kernel_rfl) (by kernel_rfl) ?_
    refine wpL_run1 (x := .tmp 5) (.pointer (some ⟨b5, 0, none⟩)) (frV gk.toNat gf gl (.slice a5 d.toNat c5)) (by kernel_rfl) (by kernel_rfl) (by kernel_rfl) (by kernel_rfl) (by kernel_rfl) (fun wx ρ hwx h0 hc => load_frameE (frC gk.toNat gf gl (.slice a5 d.toNat c5)).toList rfl rfl ρ (R5.out wx hwx) h0) ?_
    refine wpL_fn (.agg ((laid ⟨gk, gf, gl, gd⟩).map byteV).toArray) [frV gk.toNat gf gl (.slice a5 d.toNat c5)] rfl (by kernel_rfl) (by kernel_rfl) (by kernel_rfl) (by kernel_rfl) (fun _ _ => by simp [go_sem]) (fun wx hwx => CL.out wx hwx) ?_
    refine wpL_run1 (x := .tmp 4) (.pointer (some ⟨b4, 0, none⟩)) (.agg (p.map byteV).toArray) (by kernel_rfl) (by kernel_rfl) (by kernel_rfl) (by kernel_rfl) (by kernel_rfl) (fun wx ρ hwx h0 hc => load_pageE p HN.out rfl ρ (R4.out wx hwx) h0) ?_
    refine wpL_run2 (x := .tmp 22) (y := .tmp 23) (.agg ((laid ⟨gk, gf, gl, gd⟩).map byteV).toArray) (.agg (p.map byteV).toArray) (.bool (!sm)) (by kernel_rfl) (by kernel_rfl) (by kernel_rfl) (by kernel_rfl) (by kernel_rfl) (by kernel_rfl) (fun wx ρ hwx h0 h1 hc => neq_pageE rfl LL.out HN.out HS2.out ρ wx h0 h1) ?_
    refine wpL_end (by kernel_rfl) (fun w8 hw8 => ?_)
    simp only [FinL, setL, List.set_cons_zero, List.set_cons_succ]
    have H8 := Lib.hid (H7.out.later hw8)
    have ROW8 := Lib.hid (H8.out.rowV 0 rfl)
    clear hw8 R5 R4 CL H7 HG7 HNQ hnq HSM HS2 LL
    have q0 := H8.out.cellV 3 rfl 0 rfl
    have q1 := H8.out.cellV 3 rfl 1 rfl
    have q2 := H8.out.cellV 3 rfl 2 rfl
    have q3 := H8.out.cellV 3 rfl 3 rfl
    cases sm
    · have HXX : Hid (X = (zeroF, 90)) := by show X = _; rw [HX.out]; rfl
      have H9 := Lib.hid ((((H8.out.storeV 3 rfl 0 (.int .u8 0)).storeV 3 rfl 1 (.bool false)).storeV 3 rfl 2 (.bool false)).storeV 3 rfl 3 (.slice none 0 0))
      clear HX
      go_wp2
      refine bodyPost_ret (results_cell_two rfl _ _ w.heap.size 62 _ (0, 0) _ _ rfl rfl (H9.out.rowV 3 rfl) Tryd.underlying62 rfl (info_frame _ rfl)) rfl ?_
      exact takeNew_err X HXX.out H9.out.below
    · have HXX : Hid (X = (⟨gk, gf, gl, gd⟩, 0)) := by show X = _; rw [HX.out]; rfl
      have h9 := (((H8.out.storeV 3 rfl 0 (.int .u8 (gk.toNat : Int))).storeV 3 rfl 1 (.bool gf)).storeV 3 rfl 2 (.bool gl)).storeV 3 rfl 3 (.slice a5 d.toNat c5)
      have H9 := Lib.hid h9
      clear HX h9
      go_wp2_with (refine wpList_load_row rfl 62 (.tmp 5) rfl b5 rfl 62 _ (0, 0) _ ROW8.out Tryd.underlying62 rfl (info_frame _ rfl) ?_)
      refine bodyPost_ret (results_cell_two rfl _ _ w.heap.size 62 _ (0, 0) _ _ rfl rfl (H9.out.rowV 3 rfl) Tryd.underlying62 rfl (info_frame _ rfl)) rfl ?_
      rw [HXX.out]
      unfold TakeNew
      simp only [HGD.out]
      exact ⟨a5, c5, rfl, given_own H9.out 1 rfl, ab_view H9.out 1 rfl, H9.out.below⟩
end Pag
end Go.Proofs.YtllmogicmimjlaaDoor

end
section
namespace Go.Own
open Go.RowKit
section
variable {P : Program} {t e : TypeId} {z : Value} {bytes : Nat} {B : Nat} {w0 w : World} {Ps : List Asn} {v : Value}
theorem wpList_grid_appendN {ops : Array Oper} {rest : List Oper} {o : Oper} {a : Act} {Q : Exit → Act → World → Prop} {α : Type} {enc : α → Value} {t2 : TypeId} (O : One P t2 t z bytes) (hgd : o.guard = none) (s x : Operand)
    (ho : o.op = .call { callee := .builtin .append, args := #[s, x], argTypes := #[t2, t2] }) {row : List α} {rows : List (List α)} {n : Nat} (hn : row.length = n) {ao : Option Addr} {cap : Nat} (H : St B w0 w (AGrid t e enc v rows :: ARow e 1 (.slice ao n cap) n (row.map enc) :: Ps)) (hs : a.eval s = v)
    (bo : Addr) (hx : a.eval x = .slice (some bo) 1 1) (hbo : bo.spot = none) (hc : w.cell? bo = some (.slice ao n cap)) (b1 : rows.length + 1 ≤ 100000000) (b2 : bytes ≤ 1000)
    (h : ∀ ao' cap' w', St B w0 w' (AGrid t e enc (.slice ao' (rows.length + 1) cap') (rows ++ [row]) :: Ps) → wpList P ops Q rest (a.put o.dst (.slice ao' (rows.length + 1) cap')) w') : wpList P ops Q (o :: rest) a w := by
  subst hn
  exact wpList_grid_append O hgd s x ho H hs bo hx hbo hc b1 b2 h
end
end Go.Own
namespace Go.Proofs.YtllmogicmimjlaaDoor
open Go.RowKit Go.Own
namespace Byt
/-- a table of bytes of one's own may be given, whatever its blocks are called -/
theorem givenL_ownE {B : Nat} {w0 w : World} {Ps : List Asn} {v : Value} {e : TypeId} {L : List (List UInt8)} (H : Own.St B w0 w (AGrid 22 e byteV v L :: Ps)) : ∃ ao cap, v = .slice ao L.length cap ∧ GivenL w ao L.length cap L := by
  obtain ⟨rs, hl, h⟩ := H.gridOpen
  obtain ⟨ao, cap, rfl⟩ := h.rowForm 0 rfl
  obtain ⟨_, h1, h2, h3⟩ := h.rowLen 0 rfl
  refine ⟨ao, cap, rfl, rfl, ⟨h1, h2⟩, fun e => (h3 e).2, fun j hj => ?_⟩
  obtain ⟨g, rfl, ⟨u, hu, hc⟩, _, _⟩ := h.rowAt 0 rfl j (by omega)
  have hr : rs[j]? = some rs[j] := List.getElem?_eq_getElem (by omega)
  have hL : L[j]? = some L[j] := List.getElem?_eq_getElem hj
  rw [zip_at _ _ _ _ _ _ hr hL] at hu
  cases hu
  have hz := zip_at (gRow e byteV) rs L j _ _ hr hL
  have h4 : (gParts 22 e byteV (.slice (some ⟨g, 0, none⟩) L.length cap) rs L ++ Ps)[j + 1]? = some (ARow e 1 (.slice rs[j].1 L[j].length rs[j].2) L[j].length (L[j].map byteV)) := by
    unfold gParts
    rw [List.cons_append, List.getElem?_cons_succ, List.getElem?_append_left (List.getElem?_eq_some_iff.1 hz).1]
    exact hz
  have el : L.getD j [] = L[j] := by rw [List.getD_eq_getElem?_getD, hL]; rfl
  rw [el]
  obtain ⟨_, k1, k2, k3⟩ := h.rowLen (j + 1) h4
  obtain ⟨S, hS, hB, _⟩ := h.at (j + 1) h4
  refine ⟨g, 0, rs[j].1, rs[j].2, rfl, World.block_lt_of_cell? w _ hc, by rw [Nat.zero_add]; exact hc, ?_⟩
  exact ⟨(Row.view hS).live.mono (fun _ hk => hk.2), rfl, ⟨k1, k2⟩, fun h => (k3 h).2⟩
end Byt
namespace Pag
open Go.PagM Byt
end Pag
end Go.Proofs.YtllmogicmimjlaaDoor

end
section
namespace Go.Proofs.YtllmogicmimjlaaDoor
open Go.RowKit Go.Own
namespace Pag
open Go.PagM Byt
/-- what is still to come -/
def togoL (kind : UInt8) (last first : Bool) (b : PagM.Bs) : List PagM.Bs := if last = true then [] else rest kind first b
theorem togoL_step (kind : UInt8) (first : Bool) (b : PagM.Bs) : togoL kind false first b = laid ⟨kind, first, decide (b.length ≤ 125), b.take 125⟩ :: togoL kind (decide (b.length ≤ 125)) false (b.drop 125) := by
  unfold togoL
  rw [if_neg (by simp), rest_step]
  congr 1
  by_cases hl : b.length ≤ 125
  · rw [if_pos hl, if_pos (by simpa using hl)]
  · rw [if_neg hl, if_neg (by simpa using hl)]
set_option maxRecDepth 10000 in
set_option maxHeartbeats 8000000 in
theorem splitP_any (kind : UInt8) (ao : Option Addr) (n cap : Nat) (p : PagM.Bs) (w : World) (hg : Given w ao n cap p) (hb : n ≤ 1000000) :
    Calls Tryd.prog 9 #[.int .u8 (kind.toNat : Int), .slice ao n cap] w (SplitDone (split kind p) w) := by
  obtain ⟨k, hk⟩ : ∃ k, k = kind.toNat := ⟨_, rfl⟩
  rw [← hk]
  obtain ⟨X, hX⟩ : ∃ X, X = split kind p := ⟨_, rfl⟩
  rw [← hX]
  have HN := Lib.hid hg.size
  have hk255 : k ≤ 255 := by have := kind.toNat_lt; omega
  by_cases h63 : (63 : Int) < (k : Int)
  · have HX : Hid (X = ([], 1)) := by
      show X = _
      have e : splitE kind p = 1 := by unfold splitE; rw [if_pos (by omega)]
      rw [hX]; unfold split; rw [e]; rfl
    clear hX hk hg
    go_enter Tryd.func9, Tryd.ntmps9
    go_wp2
    go_ret2
    exact split_err X 1 HX.out w
  by_cases h8 : (8000 : Int) < (n : Int)
  · have HX : Hid (X = ([], 4)) := by
      show X = _
      have e : splitE kind p = 4 := by unfold splitE; rw [if_neg (by omega), if_pos (by rw [HN.out]; omega)]
      rw [hX]; unfold split; rw [e]; rfl
    clear hX hk hg
    go_enter Tryd.func9, Tryd.ntmps9
    go_wp2
    go_ret2
    exact split_err X 4 HX.out w
  obtain ⟨T, hT⟩ : ∃ T, T = rest kind true p := ⟨_, rfl⟩
  have HX : Hid (X = (T, 0)) := by
    show X = _
    have e : splitE kind p = 0 := by unfold splitE; rw [if_neg (by omega), if_neg (by rw [HN.out]; omega)]
    rw [hX]; unfold split; rw [e, hT]; rfl
  have HK := Lib.hid hk
  have HG := Lib.hid hg
  have HT := Lib.hid hT
  have HTL : Hid (T.length ≤ 70) := by
    show T.length ≤ 70
    rw [hT]
    have := pages_len kind p
    unfold pages at this
    unfold rest
    rw [this, HN.out]
    omega
  have hk63 : k ≤ 63 := by omega
  obtain ⟨z, hz⟩ : ∃ z, z = ((List.replicate 128 (0 : UInt8)).map byteV).toArray := ⟨_, rfl⟩
  have ZP : Hid ((Tryd.prog.info? 59).bind (·.zero) = some (.agg z)) := by rw [hz]; exact zero_page
  have HZ := Lib.hid hz
  have H0 : Hid (Own.St w.heap.size w w [AGrid 22 59 byteV (.slice none 0 0) []]) := St.gridNil (Own.St.start w)
  clear hX hk hg h63 hT hz
  go_enter Tryd.func9, Tryd.ntmps9
  go_wp2
  go_loopw [1, 6, 7] (fun v1 v6 v7 wr => ∃ (ab al : Option Addr) (nb cb cl ln : Nat) (lst : Bool) (q : PagM.Bs) (L : List PagM.Bs), v1 = .slice ab nb cb ∧ v6 = .slice al ln cl ∧ v7 = .bool lst ∧ ln = L.length ∧ Given w ab nb cb q ∧ nb ≤ n ∧ T = L ++ togoL kind lst (decide (ln = 0)) q ∧ (lst = true → nb = 0) ∧ Own.St w.heap.size w wr [AGrid 22 59 byteV (.slice al ln cl) L]) (fun v1 _ v7 _ => 2 * lenV v1 + 1 - boolN v7)
  case atStart => exact ⟨ao, none, n, cap, 0, 0, false, p, [], rfl, rfl, rfl, rfl, HG.out, Nat.le_refl _, by rw [HT.out]; rfl, by simp, H0.out⟩
  case round =>
    obtain ⟨ab, al, nb, cb, cl, ln, lst, q, L, rfl, rfl, rfl, hln, hgq, hnb, hTq, hlz, hH⟩ := hrel
    have G0 := Lib.hid hgq
    have G := Lib.hid (hgq.later hH.below)
    have H := Lib.hid hH
    have E := Lib.hid hTq
    have HLN := Lib.hid hln
    have HQL := Lib.hid hgq.size
    have hroom := hgq.room
    clear hgq hH hTq H0 HG hln
    cases lst
    · clear hlz
      obtain ⟨m, hm⟩ : ∃ m, m = min nb 125 := ⟨_, rfl⟩
      obtain ⟨nr, hnr⟩ : ∃ r, r = nb - m := ⟨_, rfl⟩
      obtain ⟨last, hlast⟩ : ∃ b, b = decide (nb ≤ 125) := ⟨_, rfl⟩
      obtain ⟨first, hfirst⟩ : ∃ b, b = decide (ln = 0) := ⟨_, rfl⟩
      have hmin : ∀ wx, (Builtin.min_ #[3, 3] 3 #[.int .i64 (nb : Int), .int .i64 125]).run Tryd.prog wx = .ok (.int .i64 (m : Int)) wx := by
        intro wx
        rw [show (m : Int) = min (nb : Int) 125 by omega]
        simp [Builtin.min_, Builtin.min2, go_sem]
        try omega
      have heq : ((nr : Int) == 0) = last := by rw [hlast, Bool.eq_iff_iff]; simp; omega
      have hff : ((ln : Int) == 0) = first := by rw [hfirst, Bool.eq_iff_iff]; simp
      have hmn : m ≤ nb := by omega
      have hm125 : m ≤ 125 := by omega
      have hrn : nr ≤ nb := by omega
      obtain ⟨P, hP⟩ : ∃ P, P = laid ⟨kind, first, last, q.take m⟩ := ⟨_, rfl⟩
      have hmq : q.take 125 = q.take m := by rw [hm, ← HQL.out, List.take_eq_take_iff]; omega
      have hdq : q.drop 125 = q.drop m := by
        by_cases h : nb ≤ 125
        · rw [List.drop_of_length_le (by rw [HQL.out]; exact h), List.drop_of_length_le (by rw [HQL.out]; omega)]
        · rw [show m = 125 by omega]
      have EN : Hid (T = (L ++ [P]) ++ togoL kind last (decide (ln + 1 = 0)) (q.drop m)) := by
        show T = _
        rw [E.out, togoL_step kind _ q, hmq, hdq, HQL.out, ← hlast, ← hfirst, ← hP, List.append_assoc, show decide (ln + 1 = 0) = false by simp]
        rfl
      have hPl : P.length = 128 := by rw [hP]; exact laid_len _ (by show (q.take m).length ≤ 125; rw [List.length_take]; omega)
      have LAY : Hid (Calls Tryd.prog 25 #[frV k first last (.slice ab m cb)] wr fun e w' => e = .returned (.agg (P.map byteV).toArray) ∧ Below wr.heap.size wr w') := by
        have h := lay_any ⟨kind, first, last, q.take m⟩ ab m cb wr (given_take G.out m hmn) (by show kind.toNat ≤ 63; rw [← HK.out]; exact hk63) hm125
        rw [← hP] at h
        rw [HK.out]
        exact h
      have CT := Lib.hid (cutTo (ao := ab) (l := q) (m := nb) (cap := cb) m HQL.out hmn hroom.1 hroom.2 G.out.nil).1
      obtain ⟨a5, c5, hF1, hF2⟩ := cutFrom (ao := ab) (l := q) (m := nb) (cap := cb) m HQL.out hmn hroom.1 hroom.2 G.out.nil
      rw [← hnr] at hF1 hF2
      have CF := Lib.hid hF1
      have CF2 := Lib.hid hF2
      have HLB : Hid (L.length + 1 ≤ 100000000) := by
        have h1 := HTL.out
        rw [EN.out] at h1
        simp at h1
        show L.length + 1 ≤ 100000000
        omega
      have HPL := Lib.hid hPl
      have IB := Lib.hid (info_page P hPl)
      have OB := Lib.hid (one8 P)
      have HMN : Hid (nr ≤ nb ∧ (last = false → nr < nb) ∧ (last = true → nr = 0)) := by
        refine ⟨hrn, fun h => ?_, fun h => ?_⟩
        · rw [hlast] at h; simp at h; omega
        · rw [hlast] at h; simp at h; omega
      clear hm hlast hfirst hP hmq hdq hF1 hF2 E HQL hnr hPl
      go_wp2_with (first
        | (refine Byt.wpList_val rfl (CT.out _ (.tmp 17) (.tmp 20) rfl _ _ rfl rfl) ?_)
        | (refine Byt.wpList_val rfl (CF.out _ (.tmp 22) (.tmp 24) rfl _ _ rfl rfl) ?_))
      refine LAY.out.mono ?_
      clear LAY
      rintro e w3 ⟨rfl, hb3⟩
      have h3 := H.out.later hb3
      obtain ⟨b9, hb9⟩ : ∃ b, b = w3.heap.size := ⟨_, rfl⟩
      obtain ⟨W4, hW4⟩ : ∃ W, W = w3.alloc (.cells z 59) := ⟨_, rfl⟩
      have h4 := A8.box h3 59 (List.replicate 128 0)
      rw [← HZ.out, ← hb9, ← hW4] at h4
      have TH := Lib.hid (A8.there h4 0 rfl P (by rw [HPL.out]; rfl))
      have h5 := A8.setAll h4 0 rfl P (by rw [HPL.out]; rfl)
      simp only [List.set_cons_zero] at h5
      obtain ⟨W5, hW5⟩ : ∃ W, W = W4.setCells b9 0 (P.map byteV).toArray.toList := ⟨_, rfl⟩
      rw [← hW5] at h5
      have h6 := (h5.valsRow (n := 128) (by rw [List.length_map, HPL.out]) (by decide)).swap2
      have H7 := Lib.hid (h6.alloc (.cells #[.slice (some ⟨b9, 0, none⟩) 128 128] 22))
      have CN : Hid ((W5.alloc (.cells #[.slice (some ⟨b9, 0, none⟩) 128 128] 22)).cell? ⟨W5.heap.size, 0, none⟩ = some (.slice (some ⟨b9, 0, none⟩) 128 128)) := cell_of_block (heap_alloc_new W5 _) rfl
      have HB9 := Lib.hid hb9
      have HW4 := Lib.hid hW4
      have HW5 := Lib.hid hW5
      clear hb3 h3 hb9 hW4 h4 h5 hW5 h6 H
      have HLN2 := HLN.out
      subst HLN2
      go_wp2_with (first
        | (refine Own.wpList_allocZ rfl 59 rfl z ZP.out ?_; rw [← HB9.out, ← HW4.out])
        | (refine wpList_store_mid rfl 59 (.tmp 9) (.tmp 36) rfl b9 0 (P.map byteV).toArray rfl rfl TH.out IB.out OB.out ?_; rw [← HW5.out])
        | (at_builtin; refine wpList_grid_appendN oneBytes rfl (.tmp 37) (.tmp 39) rfl HPL.out H7.out rfl ⟨W5.heap.size, 0, none⟩ rfl rfl CN.out HLB.out (by decide) ?_; intro a8 c8 w8 h8; have H8 := Lib.hid h8; clear h8))
      go_roundw
      case rel => exact ⟨a5, a8, nr, c5, c8, L.length + 1, last, q.drop m, L ++ [P], rfl, rfl, rfl, by rw [List.length_append]; rfl, ⟨CF2.out.view _ _ G0.out.view, CF2.out.len, CF2.out.cap, CF2.out.none⟩, by omega, EN.out, HMN.out.2.2, H8.out⟩
      case measure =>
        have := HMN.out
        simp only [lenV]
        cases last
        · simp [boolN] at this ⊢; omega
        · simp [boolN] at this ⊢; omega
    · have HXX : Hid (X = (L, 0)) := by
        show X = _
        rw [HX.out, E.out]
        unfold togoL
        rw [if_pos rfl, List.append_nil]
      clear E HX hlz
      have HLN2 := HLN.out
      subst HLN2
      go_wp2
      go_ret2
      rw [HXX.out]
      obtain ⟨a', c', hv, hgl⟩ := givenL_ownE H.out
      cases hv
      exact ⟨al, cl, rfl, hgl, H.out.below⟩
end Pag
end Go.Proofs.YtllmogicmimjlaaDoor

end
section
namespace Go.Proofs.YtllmogicmimjlaaDoor
open Go.RowKit Go.Own
namespace Pag
open Go.PagM Byt
set_option maxRecDepth 10000 in
set_option maxHeartbeats 8000000 in
theorem splitP_own (kind : UInt8) (ao : Option Addr) (n cap : Nat) (p : PagM.Bs) (w : World) (hg : Given w ao n cap p) (hk0 : kind.toNat ≤ 63) (hb : n ≤ 8000) :
    Calls Tryd.prog 9 #[.int .u8 (kind.toNat : Int), .slice ao n cap] w fun e w' => ∃ al cl, e = .returned (.tuple #[.slice al (pages kind p).length cl, errP 0]) ∧ Own.St w.heap.size w w' [AGrid 22 59 byteV (.slice al (pages kind p).length cl) (pages kind p)] := by
  obtain ⟨k, hk⟩ : ∃ k, k = kind.toNat := ⟨_, rfl⟩
  rw [← hk]
  have HN := Lib.hid hg.size
  have hk255 : k ≤ 255 := by have := kind.toNat_lt; omega
  have h63 : ¬ (63 : Int) < (k : Int) := by omega
  have h8 : ¬ (8000 : Int) < (n : Int) := by omega
  obtain ⟨T, hT⟩ : ∃ T, T = rest kind true p := ⟨_, rfl⟩
  have HPT : pages kind p = T := by rw [hT]; rfl
  rw [HPT]
  have HK := Lib.hid hk
  have HG := Lib.hid hg
  have HT := Lib.hid hT
  have HTL : Hid (T.length ≤ 70) := by
    show T.length ≤ 70
    rw [hT]
    have := pages_len kind p
    unfold pages at this
    unfold rest
    rw [this, HN.out]
    omega
  have hk63 : k ≤ 63 := by omega
  obtain ⟨z, hz⟩ : ∃ z, z = ((List.replicate 128 (0 : UInt8)).map byteV).toArray := ⟨_, rfl⟩
  have ZP : Hid ((Tryd.prog.info? 59).bind (·.zero) = some (.agg z)) := by rw [hz]; exact zero_page
  have HZ := Lib.hid hz
  have H0 : Hid (Own.St w.heap.size w w [AGrid 22 59 byteV (.slice none 0 0) []]) := St.gridNil (Own.St.start w)
  clear hk hg hk0 hT hz HPT
  go_enter Tryd.func9, Tryd.ntmps9
  go_wp2
  go_loopw [1, 6, 7] (fun v1 v6 v7 wr => ∃ (ab al : Option Addr) (nb cb cl ln : Nat) (lst : Bool) (q : PagM.Bs) (L : List PagM.Bs), v1 = .slice ab nb cb ∧ v6 = .slice al ln cl ∧ v7 = .bool lst ∧ ln = L.length ∧ Given w ab nb cb q ∧ nb ≤ n ∧ T = L ++ togoL kind lst (decide (ln = 0)) q ∧ (lst = true → nb = 0) ∧ Own.St w.heap.size w wr [AGrid 22 59 byteV (.slice al ln cl) L]) (fun v1 _ v7 _ => 2 * lenV v1 + 1 - boolN v7)
  case atStart => exact ⟨ao, none, n, cap, 0, 0, false, p, [], rfl, rfl, rfl, rfl, HG.out, Nat.le_refl _, by rw [HT.out]; rfl, by simp, H0.out⟩
  case round =>
    obtain ⟨ab, al, nb, cb, cl, ln, lst, q, L, rfl, rfl, rfl, hln, hgq, hnb, hTq, hlz, hH⟩ := hrel
    have G0 := Lib.hid hgq
    have G := Lib.hid (hgq.later hH.below)
    have H := Lib.hid hH
    have E := Lib.hid hTq
    have HLN := Lib.hid hln
    have HQL := Lib.hid hgq.size
    have hroom := hgq.room
    clear hgq hH hTq H0 HG hln
    cases lst
    · clear hlz
      obtain ⟨m, hm⟩ : ∃ m, m = min nb 125 := ⟨_, rfl⟩
      obtain ⟨nr, hnr⟩ : ∃ r, r = nb - m := ⟨_, rfl⟩
      obtain ⟨last, hlast⟩ : ∃ b, b = decide (nb ≤ 125) := ⟨_, rfl⟩
      obtain ⟨first, hfirst⟩ : ∃ b, b = decide (ln = 0) := ⟨_, rfl⟩
      have hmin : ∀ wx, (Builtin.min_ #[3, 3] 3 #[.int .i64 (nb : Int), .int .i64 125]).run Tryd.prog wx = .ok (.int .i64 (m : Int)) wx := by
        intro wx
        rw [show (m : Int) = min (nb : Int) 125 by omega]
        simp [Builtin.min_, Builtin.min2, go_sem]
        try omega
      have heq : ((nr : Int) == 0) = last := by rw [hlast, Bool.eq_iff_iff]; simp; omega
      have hff : ((ln : Int) == 0) = first := by rw [hfirst, Bool.eq_iff_iff]; simp
      have hmn : m ≤ nb := by omega
      have hm125 : m ≤ 125 := by omega
      have hrn : nr ≤ nb := by omega
      obtain ⟨P, hP⟩ : ∃ P, P = laid ⟨kind, first, last, q.take m⟩ := ⟨_, rfl⟩
      have hmq : q.take 125 = q.take m := by rw [hm, ← HQL.out, List.take_eq_take_iff]; omega
      have hdq : q.drop 125 = q.drop m := by
        by_cases h : nb ≤ 125
        · rw [List.drop_of_length_le (by rw [HQL.out]; exact h), List.drop_of_length_le (by rw [HQL.out]; omega)]
        · rw [show m = 125 by omega]
      have EN : Hid (T = (L ++ [P]) ++ togoL kind last (decide (ln + 1 = 0)) (q.drop m)) := by
        show T = _
        rw [E.out, togoL_step kind _ q, hmq, hdq, HQL.out, ← hlast, ← hfirst, ← hP, List.append_assoc, show decide (ln + 1 = 0) = false by simp]
        rfl
      have hPl : P.length = 128 := by rw [hP]; exact laid_len _ (by show (q.take m).length ≤ 125; rw [List.length_take]; omega)
      have LAY : Hid (Calls Tryd.prog 25 #[frV k first last (.slice ab m cb)] wr fun e w' => e = .returned (.agg (P.map byteV).toArray) ∧ Below wr.heap.size wr w') := by
        have h := lay_any ⟨kind, first, last, q.take m⟩ ab m cb wr (given_take G.out m hmn) (by show kind.toNat ≤ 63; rw [← HK.out]; exact hk63) hm125
        rw [← hP] at h
        rw [HK.out]
        exact h
      have CT := Lib.hid (cutTo (ao := ab) (l := q) (m := nb) (cap := cb) m HQL.out hmn hroom.1 hroom.2 G.out.nil).1
      obtain ⟨a5, c5, hF1, hF2⟩ := cutFrom (ao := ab) (l := q) (m := nb) (cap := cb) m HQL.out hmn hroom.1 hroom.2 G.out.nil
      rw [← hnr] at hF1 hF2
      have CF := Lib.hid hF1
      have CF2 := Lib.hid hF2
      have HLB : Hid (L.length + 1 ≤ 100000000) := by
        have h1 := HTL.out
        rw [EN.out] at h1
        simp at h1
        show L.length + 1 ≤ 100000000
        omega
      have HPL := Lib.hid hPl
      have IB := Lib.hid (info_page P hPl)
      have OB := Lib.hid (one8 P)
      have HMN : Hid (nr ≤ nb ∧ (last = false → nr < nb) ∧ (last = true → nr = 0)) := by
        refine ⟨hrn, fun h => ?_, fun h => ?_⟩
        · rw [hlast] at h; simp at h; omega
        · rw [hlast] at h; simp at h; omega
      clear hm hlast hfirst hP hmq hdq hF1 hF2 E HQL hnr hPl
      go_wp2_with (first
        | (refine Byt.wpList_val rfl (CT.out _ (.tmp 17) (.tmp 20) rfl _ _ rfl rfl) ?_)
        | (refine Byt.wpList_val rfl (CF.out _ (.tmp 22) (.tmp 24) rfl _ _ rfl rfl) ?_))
      refine LAY.out.mono ?_
      clear LAY
      rintro e w3 ⟨rfl, hb3⟩
      have h3 := H.out.later hb3
      obtain ⟨b9, hb9⟩ : ∃ b, b = w3.heap.size := ⟨_, rfl⟩
      obtain ⟨W4, hW4⟩ : ∃ W, W = w3.alloc (.cells z 59) := ⟨_, rfl⟩
      have h4 := A8.box h3 59 (List.replicate 128 0)
      rw [← HZ.out, ← hb9, ← hW4] at h4
      have TH := Lib.hid (A8.there h4 0 rfl P (by rw [HPL.out]; rfl))
      have h5 := A8.setAll h4 0 rfl P (by rw [HPL.out]; rfl)
      simp only [List.set_cons_zero] at h5
      obtain ⟨W5, hW5⟩ : ∃ W, W = W4.setCells b9 0 (P.map byteV).toArray.toList := ⟨_, rfl⟩
      rw [← hW5] at h5
      have h6 := (h5.valsRow (n := 128) (by rw [List.length_map, HPL.out]) (by decide)).swap2
      have H7 := Lib.hid (h6.alloc (.cells #[.slice (some ⟨b9, 0, none⟩) 128 128] 22))
      have CN : Hid ((W5.alloc (.cells #[.slice (some ⟨b9, 0, none⟩) 128 128] 22)).cell? ⟨W5.heap.size, 0, none⟩ = some (.slice (some ⟨b9, 0, none⟩) 128 128)) := cell_of_block (heap_alloc_new W5 _) rfl
      have HB9 := Lib.hid hb9
      have HW4 := Lib.hid hW4
      have HW5 := Lib.hid hW5
      clear hb3 h3 hb9 hW4 h4 h5 hW5 h6 H
      have HLN2 := HLN.out
      subst HLN2
      go_wp2_with (first
        | (refine Own.wpList_allocZ rfl 59 rfl z ZP.out ?_; rw [← HB9.out, ← HW4.out])
        | (refine wpList_store_mid rfl 59 (.tmp 9) (.tmp 36) rfl b9 0 (P.map byteV).toArray rfl rfl TH.out IB.out OB.out ?_; rw [← HW5.out])
        | (at_builtin; refine wpList_grid_appendN oneBytes rfl (.tmp 37) (.tmp 39) rfl HPL.out H7.out rfl ⟨W5.heap.size, 0, none⟩ rfl rfl CN.out HLB.out (by decide) ?_; intro a8 c8 w8 h8; have H8 := Lib.hid h8; clear h8))
      go_roundw
      case rel => exact ⟨a5, a8, nr, c5, c8, L.length + 1, last, q.drop m, L ++ [P], rfl, rfl, rfl, by rw [List.length_append]; rfl, ⟨CF2.out.view _ _ G0.out.view, CF2.out.len, CF2.out.cap, CF2.out.none⟩, by omega, EN.out, HMN.out.2.2, H8.out⟩
      case measure =>
        have := HMN.out
        simp only [lenV]
        cases last
        · simp [boolN] at this ⊢; omega
        · simp [boolN] at this ⊢; omega
    · have HXX : Hid (T = L) := by
        show T = L
        rw [E.out]
        unfold togoL
        rw [if_pos rfl, List.append_nil]
      clear E hlz
      have HLN2 := HLN.out
      subst HLN2
      go_wp2
      go_ret2
      rw [HXX.out]
      exact ⟨al, cl, rfl, H.out⟩
end Pag
end Go.Proofs.YtllmogicmimjlaaDoor

end
section
namespace Go.Proofs.YtllmogicmimjlaaDoor
open Go.RowKit Go.Own
namespace Pag
open Go.PagM Byt
set_option maxRecDepth 10000 in
set_option maxHeartbeats 8000000 in
theorem joinP_any (ao : Option Addr) (n cap : Nat) (L : List PagM.Bs) (w : World) (hg : GivenL w ao n cap L) (hb : n ≤ 1000000) (hlen : ∀ p ∈ L, p.length ≤ 1000000) :
    Calls Tryd.prog 11 #[.slice ao n cap] w (JoinDone (join L) w) := by
  obtain ⟨X, hX⟩ : ∃ X, X = join L := ⟨_, rfl⟩
  rw [← hX]
  have HX := Lib.hid (show X = joinF 0 0 [] (L.drop 0) from hX)
  have HG := Lib.hid hg
  have HN := Lib.hid hg.size
  have HL := Lib.hid hlen
  have hroom := hg.room
  unfold maxLen at hroom
  have HNO0 : Hid (ao = none → cap = 0) := hg.nil
  have H0 := Lib.hid (ab_nil (Own.St.start w))
  obtain ⟨m, hm⟩ : ∃ m, m = min n 64 := ⟨_, rfl⟩
  have hmn : m ≤ n := by omega
  have hmc : m ≤ cap := by omega
  have hm64 : m ≤ 64 := by omega
  have HM : Hid (m = n ∨ m = 64) := by show _ ∨ _; omega
  have hmin : ∀ wx, (Builtin.min_ #[3, 3] 3 #[.int .i64 (n : Int), .int .i64 64]).run Tryd.prog wx = .ok (.int .i64 (m : Int)) wx := by
    intro wx
    rw [show (m : Int) = min (n : Int) 64 by omega]
    simp [Builtin.min_, Builtin.min2, go_sem]
    try omega
  clear hX hg hlen hm
  go_enter Tryd.func11, Tryd.ntmps11
  go_wp2
  go_loopw [6, 7, 18] (fun v6 v7 v18 wr => ∃ (i na ca : Nat) (k : UInt8) (aa : Option Addr) (all : PagM.Bs), v7 = .slice aa na ca ∧ v6 = .int .u8 (k.toNat : Int) ∧ v18 = .int .i64 (i : Int) ∧ i ≤ m ∧ na ≤ 125 * i ∧ X = joinF i k all (L.drop i) ∧ Own.St w.heap.size w wr [AB aa na ca all]) (fun _ _ v18 _ => m - (intOf v18).toNat)
  case atStart => exact ⟨0, 0, 0, 0, none, [], rfl, rfl, rfl, Nat.zero_le _, Nat.zero_le _, HX.out, H0.out⟩
  case round =>
    obtain ⟨i, na, ca, k, aa, all, rfl, rfl, rfl, him, hna, hXi, hH⟩ := hrel
    have H := Lib.hid hH
    have E := Lib.hid hXi
    have HAL := Lib.hid (ab_len hH 0 rfl).1
    clear hH hXi H0 HX
    by_cases hgo : ¬ (i : Int) < (m : Int)
    · have HXX : Hid (X = ((0, [], 0), 90)) := by
        show X = _
        rw [E.out]
        rcases Nat.lt_or_ge i n with h | h
        · have h6 : 64 ≤ i := by have := HM.out; omega
          rw [List.drop_eq_getElem_cons (by rw [HN.out]; exact h), joinF, if_pos h6]
        · rw [List.drop_of_length_le (by rw [HN.out]; exact h)]; rfl
      clear E
      go_wp2
      refine bodyPost_ret (results_four rfl _ _ rfl rfl rfl rfl) rfl ?_
      exact join_err X HXX.out H.out.below
    · have h1 : (i : Int) < (m : Int) := by omega
      have hin2 : i < n := by omega
      have hi64 : i < 64 := by omega
      have GW := Lib.hid (HG.out.later H.out.below)
      obtain ⟨b, o, aj, cj, rfl, hbl, hcell, hgj⟩ := GW.out.rows i hin2
      obtain ⟨q, hq⟩ : ∃ q, q = L.getD i [] := ⟨_, rfl⟩
      rw [← hq] at hcell hgj
      have hql : q.length ≤ 1000000 := by
        rw [hq, List.getD_eq_getElem?_getD, List.getElem?_eq_getElem (by rw [HN.out]; exact hin2)]
        exact HL.out _ (List.getElem_mem _)
      have EJ := joinF_at i k all L (by rw [HN.out]; exact hin2) hi64
      rw [← hq] at EJ
      obtain ⟨X0, hX0⟩ : ∃ x, x = PagM.take q := ⟨_, rfl⟩
      have TK := take_new aj q.length cj q wr hgj hql
      rw [← hX0] at TK
      obtain ⟨ml, hml⟩ : ∃ m, m = q.length := ⟨_, rfl⟩
      rw [← hml] at hcell TK
      by_cases hpg : isPage q = true
      · obtain ⟨hp1, hp2, hp3⟩ := isPage_props hpg
        obtain ⟨gs1, gs2⟩ := guess_small q hp1 hp2
        have hX1 : X0 = (guess q, 0) := by rw [hX0]; unfold PagM.take; rw [if_pos hpg]
        rw [hpg] at EJ
        obtain ⟨gq, hgq⟩ : ∃ g, g = guess q := ⟨_, rfl⟩
        rw [← hgq] at EJ hX1 gs1 gs2
        obtain ⟨fk, ff, fl, fd⟩ := gq
        simp only at EJ gs1 gs2
        rw [hX1] at TK
        unfold TakeNew at TK
        simp only at TK
        obtain ⟨dl, hdl⟩ : ∃ z, z = fd.length := ⟨_, rfl⟩
        have hdl125 : dl ≤ 125 := by omega
        have TK2 : Hid (Calls Tryd.prog 26 #[.slice aj ml cj] wr fun e w' => ∃ ao cap, e = .returned (.tuple #[.agg #[.int .u8 (fk.toNat : Int), .bool ff, .bool fl, .slice ao dl cap], errP 0]) ∧ Given w' ao dl cap fd ∧ Below wr.heap.size wr w') := by
          rw [hdl]
          exact TK.mono fun e w' ⟨a, c, h1, h2, _, h3⟩ => ⟨a, c, h1, h2, h3⟩
        have HDL := Lib.hid hdl
        rw [← hdl] at EJ
        have EJ2 := Lib.hid EJ
        have hk8 : fk.toNat ≤ 63 := gs1
        have hself : ((fk.toNat : Int) != (fk.toNat : Int)) = false := by simp
        clear hq hgj EJ TK hX0 hX1 hml hpg hp1 hp2 hp3 gs1 gs2 hgq hdl hgo
        rcases Nat.eq_zero_or_pos i with hi0 | hi0
        · have HI0 := Lib.hid hi0
          have hi2 : ((i : Int) == 0) = true := by simp; omega
          clear hi0
          cases ff
          · skip
            have HXX : Hid (X = ((0, [], 0), 90)) := by show X = _; rw [E.out, EJ2.out]; simp [HI0.out]
            clear EJ2 E
            go_wp2_with (fail)
            refine TK2.out.mono ?_
            clear TK2
            rintro e w3 ⟨a3, c3, rfl, hg3, hb3⟩
            have H3 := Lib.hid (H.out.later hb3)
            have H4 := Lib.hid (H3.out.boxV 62 [.int .u8 (fk.toNat : Int), .bool false, .bool fl, .slice a3 dl c3])
            have G3 := Lib.hid (hg3.later ((Own.St.start w3).alloc (.cells #[.int .u8 (fk.toNat : Int), .bool false, .bool fl, .slice a3 dl c3] 62)).below)
            clear hg3 hb3
            go_wp2_with (fail)
            refine bodyPost_ret (results_four rfl _ _ rfl rfl rfl rfl) rfl ?_
            exact join_err X HXX.out H4.out.below
          · skip
            cases fl
            · by_cases hd5 : dl = 125
              · subst hd5
                have HXX : Hid (X = joinF (i + 1) fk (all ++ fd) (L.drop (i + 1))) := by show X = _; rw [E.out, EJ2.out]; simp [HI0.out]
                clear EJ2 E
                go_wp2_with (fail)
                refine TK2.out.mono ?_
                clear TK2
                rintro e w3 ⟨a3, c3, rfl, hg3, hb3⟩
                have H3 := Lib.hid (H.out.later hb3)
                have H4 := Lib.hid (H3.out.boxV 62 [.int .u8 (fk.toNat : Int), .bool true, .bool false, .slice a3 125 c3])
                have G3 := Lib.hid (hg3.later ((Own.St.start w3).alloc (.cells #[.int .u8 (fk.toNat : Int), .bool true, .bool false, .slice a3 125 c3] 62)).below)
                clear hg3 hb3
                have HNO := Lib.hid (given_nil G3.out)
                have HC := Lib.hid (vcells G3.out.view)
                go_wp2_with (at_builtin; refine Byt.wpList_ab_append rfl (.tmp 47) (.tmp 49) rfl H4.out 1 rfl rfl a3 125 c3 fd rfl HNO.out HDL.out.symm HC.out (by omega) ?_; intro a5 c5 w5 h5; simp only [List.set_cons_succ, List.set_cons_zero] at h5; have d2 := (h5.cellV 0 rfl 2 rfl).1; have d3 := (h5.cellV 0 rfl 3 rfl).1; have H5 := Lib.hid h5; clear h5)
                go_roundw
                case rel => exact ⟨i + 1, na + 125, c5, fk, a5, all ++ fd, rfl, rfl, by go_num, by omega, by omega, HXX.out, H5.out.drop 1⟩
                case measure => simp [intOf]; omega
              · have hd6 : (dl : Int) < 125 := by omega
                have HXX : Hid (X = ((0, [], 0), 90)) := by show X = _; rw [E.out, EJ2.out]; simp [HI0.out, hd5]
                clear EJ2 E hd5
                go_wp2_with (fail)
                refine TK2.out.mono ?_
                clear TK2
                rintro e w3 ⟨a3, c3, rfl, hg3, hb3⟩
                have H3 := Lib.hid (H.out.later hb3)
                have H4 := Lib.hid (H3.out.boxV 62 [.int .u8 (fk.toNat : Int), .bool true, .bool false, .slice a3 dl c3])
                have G3 := Lib.hid (hg3.later ((Own.St.start w3).alloc (.cells #[.int .u8 (fk.toNat : Int), .bool true, .bool false, .slice a3 dl c3] 62)).below)
                clear hg3 hb3
                have HNO := Lib.hid (given_nil G3.out)
                have HC := Lib.hid (vcells G3.out.view)
                go_wp2_with (at_builtin; refine Byt.wpList_ab_append rfl (.tmp 47) (.tmp 49) rfl H4.out 1 rfl rfl a3 dl c3 fd rfl HNO.out HDL.out.symm HC.out (by omega) ?_; intro a5 c5 w5 h5; simp only [List.set_cons_succ, List.set_cons_zero] at h5; have d2 := (h5.cellV 0 rfl 2 rfl).1; have d3 := (h5.cellV 0 rfl 3 rfl).1; have H5 := Lib.hid h5; clear h5)
                refine bodyPost_ret (results_four rfl _ _ rfl rfl rfl rfl) rfl ?_
                exact join_err X HXX.out H5.out.below
            · skip
              have HXX : Hid (X = ((fk, all ++ fd, i + 1), 0)) := by show X = _; rw [E.out, EJ2.out]; simp [HI0.out]
              clear EJ2 E
              go_wp2_with (fail)
              refine TK2.out.mono ?_
              clear TK2
              rintro e w3 ⟨a3, c3, rfl, hg3, hb3⟩
              have H3 := Lib.hid (H.out.later hb3)
              have H4 := Lib.hid (H3.out.boxV 62 [.int .u8 (fk.toNat : Int), .bool true, .bool true, .slice a3 dl c3])
              have G3 := Lib.hid (hg3.later ((Own.St.start w3).alloc (.cells #[.int .u8 (fk.toNat : Int), .bool true, .bool true, .slice a3 dl c3] 62)).below)
              clear hg3 hb3
              have HNO := Lib.hid (given_nil G3.out)
              have HC := Lib.hid (vcells G3.out.view)
              go_wp2_with (at_builtin; refine Byt.wpList_ab_append rfl (.tmp 47) (.tmp 49) rfl H4.out 1 rfl rfl a3 dl c3 fd rfl HNO.out HDL.out.symm HC.out (by omega) ?_; intro a5 c5 w5 h5; simp only [List.set_cons_succ, List.set_cons_zero] at h5; have d2 := (h5.cellV 0 rfl 2 rfl).1; have d3 := (h5.cellV 0 rfl 3 rfl).1; have H5 := Lib.hid h5; clear h5)
              refine bodyPost_ret (results_four rfl _ _ rfl rfl rfl rfl) rfl ?_
              rw [HXX.out]
              refine ⟨a5, c5, ?_, ?_, H5.out.below⟩
              · simp only [List.length_append, HAL.out, ← HDL.out]; rfl
              · simp only [List.length_append, HAL.out, ← HDL.out]
                exact given_own H5.out 1 rfl
        · have hi1 : (0 : Int) < (i : Int) := by omega
          have hi2 : ((i : Int) == 0) = false := by simp; omega
          have hi3 : ¬ i = 0 := by omega
          cases ff
          · by_cases hkk : fk = k
            · subst hkk
              cases fl
              · by_cases hd5 : dl = 125
                · subst hd5
                  have HXX : Hid (X = joinF (i + 1) fk (all ++ fd) (L.drop (i + 1))) := by show X = _; rw [E.out, EJ2.out]; simp [hi3, hi0]
                  clear EJ2 E
                  go_wp2_with (fail)
                  refine TK2.out.mono ?_
                  clear TK2
                  rintro e w3 ⟨a3, c3, rfl, hg3, hb3⟩
                  have H3 := Lib.hid (H.out.later hb3)
                  have H4 := Lib.hid (H3.out.boxV 62 [.int .u8 (fk.toNat : Int), .bool false, .bool false, .slice a3 125 c3])
                  have G3 := Lib.hid (hg3.later ((Own.St.start w3).alloc (.cells #[.int .u8 (fk.toNat : Int), .bool false, .bool false, .slice a3 125 c3] 62)).below)
                  clear hg3 hb3
                  have HNO := Lib.hid (given_nil G3.out)
                  have HC := Lib.hid (vcells G3.out.view)
                  go_wp2_with (at_builtin; refine Byt.wpList_ab_append rfl (.tmp 47) (.tmp 49) rfl H4.out 1 rfl rfl a3 125 c3 fd rfl HNO.out HDL.out.symm HC.out (by omega) ?_; intro a5 c5 w5 h5; simp only [List.set_cons_succ, List.set_cons_zero] at h5; have d2 := (h5.cellV 0 rfl 2 rfl).1; have d3 := (h5.cellV 0 rfl 3 rfl).1; have H5 := Lib.hid h5; clear h5)
                  go_roundw
                  case rel => exact ⟨i + 1, na + 125, c5, fk, a5, all ++ fd, rfl, rfl, by go_num, by omega, by omega, HXX.out, H5.out.drop 1⟩
                  case measure => simp [intOf]; omega
                · have hd6 : (dl : Int) < 125 := by omega
                  have HXX : Hid (X = ((0, [], 0), 90)) := by show X = _; rw [E.out, EJ2.out]; simp [hi3, hi0, hd5]
                  clear EJ2 E hd5
                  go_wp2_with (fail)
                  refine TK2.out.mono ?_
                  clear TK2
                  rintro e w3 ⟨a3, c3, rfl, hg3, hb3⟩
                  have H3 := Lib.hid (H.out.later hb3)
                  have H4 := Lib.hid (H3.out.boxV 62 [.int .u8 (fk.toNat : Int), .bool false, .bool false, .slice a3 dl c3])
                  have G3 := Lib.hid (hg3.later ((Own.St.start w3).alloc (.cells #[.int .u8 (fk.toNat : Int), .bool false, .bool false, .slice a3 dl c3] 62)).below)
                  clear hg3 hb3
                  have HNO := Lib.hid (given_nil G3.out)
                  have HC := Lib.hid (vcells G3.out.view)
                  go_wp2_with (at_builtin; refine Byt.wpList_ab_append rfl (.tmp 47) (.tmp 49) rfl H4.out 1 rfl rfl a3 dl c3 fd rfl HNO.out HDL.out.symm HC.out (by omega) ?_; intro a5 c5 w5 h5; simp only [List.set_cons_succ, List.set_cons_zero] at h5; have d2 := (h5.cellV 0 rfl 2 rfl).1; have d3 := (h5.cellV 0 rfl 3 rfl).1; have H5 := Lib.hid h5; clear h5)
                  refine bodyPost_ret (results_four rfl _ _ rfl rfl rfl rfl) rfl ?_
                  exact join_err X HXX.out H5.out.below
              · skip
                have HXX : Hid (X = ((fk, all ++ fd, i + 1), 0)) := by show X = _; rw [E.out, EJ2.out]; simp [hi3, hi0]
                clear EJ2 E
                go_wp2_with (fail)
                refine TK2.out.mono ?_
                clear TK2
                rintro e w3 ⟨a3, c3, rfl, hg3, hb3⟩
                have H3 := Lib.hid (H.out.later hb3)
                have H4 := Lib.hid (H3.out.boxV 62 [.int .u8 (fk.toNat : Int), .bool false, .bool true, .slice a3 dl c3])
                have G3 := Lib.hid (hg3.later ((Own.St.start w3).alloc (.cells #[.int .u8 (fk.toNat : Int), .bool false, .bool true, .slice a3 dl c3] 62)).below)
                clear hg3 hb3
                have HNO := Lib.hid (given_nil G3.out)
                have HC := Lib.hid (vcells G3.out.view)
                go_wp2_with (at_builtin; refine Byt.wpList_ab_append rfl (.tmp 47) (.tmp 49) rfl H4.out 1 rfl rfl a3 dl c3 fd rfl HNO.out HDL.out.symm HC.out (by omega) ?_; intro a5 c5 w5 h5; simp only [List.set_cons_succ, List.set_cons_zero] at h5; have d2 := (h5.cellV 0 rfl 2 rfl).1; have d3 := (h5.cellV 0 rfl 3 rfl).1; have H5 := Lib.hid h5; clear h5)
                refine bodyPost_ret (results_four rfl _ _ rfl rfl rfl rfl) rfl ?_
                rw [HXX.out]
                refine ⟨a5, c5, ?_, ?_, H5.out.below⟩
                · simp only [List.length_append, HAL.out, ← HDL.out]; rfl
                · simp only [List.length_append, HAL.out, ← HDL.out]
                  exact given_own H5.out 1 rfl
            · have hk6 : ((fk.toNat : Int) != (k.toNat : Int)) = true := by simp; exact fun h => hkk (UInt8.toNat_inj.1 (by omega))
              have HXX : Hid (X = ((0, [], 0), 90)) := by show X = _; rw [E.out, EJ2.out]; simp [hi3, hi0, hkk]
              clear EJ2 E
              go_wp2_with (fail)
              refine TK2.out.mono ?_
              clear TK2
              rintro e w3 ⟨a3, c3, rfl, hg3, hb3⟩
              have H3 := Lib.hid (H.out.later hb3)
              have H4 := Lib.hid (H3.out.boxV 62 [.int .u8 (fk.toNat : Int), .bool false, .bool fl, .slice a3 dl c3])
              have G3 := Lib.hid (hg3.later ((Own.St.start w3).alloc (.cells #[.int .u8 (fk.toNat : Int), .bool false, .bool fl, .slice a3 dl c3] 62)).below)
              clear hg3 hb3
              go_wp2_with (fail)
              refine bodyPost_ret (results_four rfl _ _ rfl rfl rfl rfl) rfl ?_
              exact join_err X HXX.out H4.out.below
          · skip
            have HXX : Hid (X = ((0, [], 0), 90)) := by show X = _; rw [E.out, EJ2.out]; simp [hi3]
            clear EJ2 E
            go_wp2_with (fail)
            refine TK2.out.mono ?_
            clear TK2
            rintro e w3 ⟨a3, c3, rfl, hg3, hb3⟩
            have H3 := Lib.hid (H.out.later hb3)
            have H4 := Lib.hid (H3.out.boxV 62 [.int .u8 (fk.toNat : Int), .bool true, .bool fl, .slice a3 dl c3])
            have G3 := Lib.hid (hg3.later ((Own.St.start w3).alloc (.cells #[.int .u8 (fk.toNat : Int), .bool true, .bool fl, .slice a3 dl c3] 62)).below)
            clear hg3 hb3
            go_wp2_with (fail)
            refine bodyPost_ret (results_four rfl _ _ rfl rfl rfl rfl) rfl ?_
            exact join_err X HXX.out H4.out.below
      · have hpf : isPage q = false := by simpa using hpg
        have hX1 : X0 = (zeroF, 90) := by rw [hX0]; unfold PagM.take; rw [if_neg hpg]
        rw [hX1] at TK
        have TK2 : Hid (Calls Tryd.prog 26 #[.slice aj ml cj] wr fun e w' => ∃ ao cap, e = .returned (.tuple #[.agg #[.int .u8 0, .bool false, .bool false, .slice ao 0 cap], errP 90]) ∧ Given w' ao 0 cap [] ∧ Below wr.heap.size wr w') := TK.mono fun e w' ⟨a, c, h1, h2, _, h3⟩ => ⟨a, c, h1, h2, h3⟩
        have HXX : Hid (X = ((0, [], 0), 90)) := by
          show X = _
          rw [E.out, EJ, hpf]
          rfl
        clear hq hgj EJ TK hX0 hX1 hml hpg hpf hgo E
        rcases Nat.eq_zero_or_pos i with hi0 | hi0
        · have hi2 : ((i : Int) == 0) = true := by simp; omega
          clear hi0
          go_wp2_with (fail)
          refine TK2.out.mono ?_
          clear TK2
          rintro e w3 ⟨a3, c3, rfl, hg3, hb3⟩
          have H3 := Lib.hid (H.out.later hb3)
          have H4 := Lib.hid (H3.out.boxV 62 [.int .u8 0, .bool false, .bool false, .slice a3 0 c3])
          have G3 := Lib.hid (hg3.later ((Own.St.start w3).alloc (.cells #[.int .u8 0, .bool false, .bool false, .slice a3 0 c3] 62)).below)
          clear hg3 hb3
          go_wp2_with (fail)
          refine bodyPost_ret (results_four rfl _ _ rfl rfl rfl rfl) rfl ?_
          exact join_err X HXX.out H4.out.below
        · have hi2 : ((i : Int) == 0) = false := by simp; omega
          clear hi0
          go_wp2_with (fail)
          refine TK2.out.mono ?_
          clear TK2
          rintro e w3 ⟨a3, c3, rfl, hg3, hb3⟩
          have H3 := Lib.hid (H.out.later hb3)
          have H4 := Lib.hid (H3.out.boxV 62 [.int .u8 0, .bool false, .bool false, .slice a3 0 c3])
          have G3 := Lib.hid (hg3.later ((Own.St.start w3).alloc (.cells #[.int .u8 0, .bool false, .bool false, .slice a3 0 c3] 62)).below)
          clear hg3 hb3
          go_wp2_with (fail)
          refine bodyPost_ret (results_four rfl _ _ rfl rfl rfl rfl) rfl ?_
          exact join_err X HXX.out H4.out.below
theorem kept (W : World) : Kept W where
  take := fun ao n cap p _ hg hb => take_new ao n cap p _ hg hb
  split := fun kind ao n cap p _ hg hb => splitP_any kind ao n cap p _ hg hb
  join := fun ao n cap L _ hg hb hl => joinP_any ao n cap L _ hg hb hl
end Pag
end Go.Proofs.YtllmogicmimjlaaDoor

end
