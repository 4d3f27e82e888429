/- A region that draws its order and makes new memory of its own ('a, b := f(x), f(y)'): the walk of XLax, and besides: the new blocks are apart; and several stores at its end. -/
import Derived.Test.YtefbcoakjdjkgaaLax
namespace Go.Own
open Go.RowKit

section
variable {P : Program} {ops : Array Oper} {C : World → Prop}

/-- the slots of F that are there hold new blocks, apart from one another -/
def Fresh (ops : Array Oper) (F : List Tmp) (listed : Array Bool) (a1 : Act) (w1 : World) : Prop :=
  (∀ (j : Nat) (oj : Oper) (d : Tmp), ops[j]? = some oj → listed.getD j false = true → oj.dst = some d → d ∈ F → ∃ b, a1.tmps.getD d undef = .pointer (some ⟨b, 0, none⟩) ∧ b < w1.heap.size) ∧
  ∀ (j k : Nat) (oj ok : Oper) (d d' : Tmp), ops[j]? = some oj → ops[k]? = some ok → listed.getD j false = true → listed.getD k false = true → oj.dst = some d → ok.dst = some d' → d ∈ F → d' ∈ F → d ≠ d' → a1.tmps.getD d undef ≠ a1.tmps.getD d' undef

/-- an operation's value, and that it is the new block if the operation makes one -/
theorem with_fresh {F : List Tmp} {ob : Obj} {oi : Oper} {i : Nat} {a0 a1 : Act} {w1 : World} {R : Value → World → Prop} {K : Act → World → Prop} {Q : Exit → Act → World → Prop} (hs : a1.tmps.size = a0.tmps.size)
    (hin : ∀ (k : Nat) (o : Oper) (d : Tmp), ops[k]? = some o → o.dst = some d → d < a0.tmps.size) (hoi : ops[i]? = some oi)
    (hF : ∀ (i : Nat) (oi : Oper) (d : Tmp), ops[i]? = some oi → oi.dst = some d → d ∈ F → oi.guard = none ∧ ∀ a1 w K Q, oi.wp P a1 w K Q ↔ K (a1.put (some d) (.pointer (some ⟨w.heap.size, 0, none⟩))) (w.alloc ob))
    (h : ∀ (K : Act → World → Prop) (Q : Exit → Act → World → Prop), (∀ v w', R v w' → Below w1.heap.size w1 w' → K (a1.put oi.dst v) w') → oi.wp P a1 w1 K Q)
    (k : ∀ v w', R v w' → Below w1.heap.size w1 w' → (∀ d, oi.dst = some d → d ∈ F → v = .pointer (some ⟨w1.heap.size, 0, none⟩) ∧ w1.heap.size < w'.heap.size) → K (a1.put oi.dst v) w') : oi.wp P a1 w1 K Q := by
  by_cases hd : ∃ d, oi.dst = some d ∧ d ∈ F
  · obtain ⟨d, hd, hdF⟩ := hd
    have hi := (hF i oi d hoi hd hdF).2
    obtain ⟨v, e, hv, hb⟩ := (hi a1 w1 _ Q).1 (h (fun a' w' => ∃ v, a' = a1.put oi.dst v ∧ R v w' ∧ Below w1.heap.size w1 w') Q (fun v w' h1 h2 => ⟨v, rfl, h1, h2⟩))
    have hlt : d < a1.tmps.size := by rw [hs]; exact hin i oi d hoi hd
    have e2 : v = .pointer (some ⟨w1.heap.size, 0, none⟩) := by
      have := congrArg (fun a : Act => a.tmps.getD d undef) e
      simp only [hd] at this
      rw [put_getD a1 d d _ hlt, put_getD a1 d d _ hlt, if_pos rfl, if_pos rfl] at this
      exact this.symm
    refine (hi a1 w1 K Q).2 ?_
    have := k v _ hv hb (fun d' hd' _ => ⟨e2, by simp⟩)
    rw [hd, e2] at this
    exact this
  · exact h K Q (fun v w' h1 h2 => k v w' h1 h2 (fun d h3 h4 => absurd ⟨d, h3, h4⟩ hd))

/-- an operation waits for another, by way of others -/
inductive Reach (md : Region.Mode) (ops : Array Oper) : Oper → Nat → Prop
  | one {o : Oper} {e : Edge} {j : Nat} : e ∈ o.after → Region.binds md e = true → e.on = j → Reach md ops o j
  | step {o ok : Oper} {e : Edge} {j : Nat} : e ∈ o.after → Region.binds md e = true → ops[e.on]? = some ok → Reach md ops ok j → Reach md ops o j
theorem Reach.listed {md : Region.Mode} {ops : Array Oper} {listed : Array Bool} (hc : ∀ (j : Nat) (oj : Oper), ops[j]? = some oj → listed.getD j false = true → ∀ e ∈ oj.after, Region.binds md e = true → listed.getD e.on false = true) {o : Oper} {j : Nat} (h : Reach md ops o j) :
    (∀ e ∈ o.after, Region.binds md e = true → listed.getD e.on false = true) → listed.getD j false = true := by
  induction h with
  | one he hb hj => intro ha; rw [← hj]; exact ha _ he hb
  | step he hb hk _ ih => intro ha; exact ih (hc _ _ hk (ha _ he hb))

/-- WHATEVER ORDER IS DRAWN -/
theorem wpAny_laxF {md : Region.Mode} {Q' : Exit → Act → World → Prop} (hC : ∀ w w', C w → Below w.heap.size w w' → C w') {a0 : Act} {S : Nat → Lx × Act} (hS0 : S 0 = ([], a0))
    {n : Nat} (hn : n ≤ ops.size) (hst : ∀ (k : Nat) (o : Oper), k < n → ops[k]? = some o → StepT P ops C o (S k).1 (S k).2 (S (k + 1)).1 (S (k + 1)).2)
    (hin : ∀ (k : Nat) (o : Oper) (d : Tmp), ops[k]? = some o → o.dst = some d → d < a0.tmps.size)
    (hone : ∀ (j k : Nat) (x y : Oper) (d : Tmp), ops[j]? = some x → ops[k]? = some y → x.dst = some d → y.dst = some d → j = k)
    (hlex : ∀ (i : Nat) (oi : Oper), ops[i]? = some oi → (∀ e ∈ oi.after, Region.binds md e = true → e.on < i) ∧ ∀ j oj, i < j → ops[j]? = some oj → (∃ e ∈ oj.after, Region.binds md e = true ∧ e.on = i) ∨ oi.apart ops oj = true)
    (F : List Tmp) (ob : Obj) (hF : ∀ (i : Nat) (oi : Oper) (d : Tmp), ops[i]? = some oi → oi.dst = some d → d ∈ F → oi.guard = none ∧ ∀ a1 w K Q, oi.wp P a1 w K Q ↔ K (a1.put (some d) (.pointer (some ⟨w.heap.size, 0, none⟩))) (w.alloc ob))
    (hwait : ∀ (i : Nat) (oi : Oper), n ≤ i → ops[i]? = some oi → ∀ j, j < n → Reach md ops oi j)
    (hfin : ∀ (fuel : Nat) (listed : Array Bool) (a1 : Act) (w1 : World), (∃ s, (List.range ops.size).filter (fun i => !listed.getD i true) = s ∧ s.length = fuel) → listed.size = ops.size → (∀ i, i < n → listed.getD i true = true) → (∀ j, n ≤ j → j < ops.size → listed.getD j true = false) → Rep C (S n).1 (S n).2 a1 w1 → Fresh ops F listed a1 w1 → wpAny P md ops Q' fuel listed a1 w1) :
    ∀ (fuel : Nat) (listed : Array Bool) (a1 : Act) (w1 : World), (∃ s, (List.range ops.size).filter (fun i => !listed.getD i true) = s ∧ s.length = fuel) → RunInv md n ops C a0 S listed a1 w1 → Fresh ops F listed a1 w1 → wpAny P md ops Q' fuel listed a1 w1 := by
  -- all that is not listed: none is ready only if none is left
  have hready : ∀ listed : Array Bool, listed.size = ops.size → Region.ready md ops listed = [] → ∀ i, i < ops.size → listed.getD i true = true := by
    intro listed hls hr i
    induction i using Nat.strongRecOn with
    | _ i ih =>
      intro hi
      rcases hb : listed.getD i true with _ | _
      · exfalso
        have : i ∈ Region.ready md ops listed := by
          refine mem_ready.2 ⟨hb, ops[i], Array.getElem?_eq_getElem hi, fun e he hbd => ?_⟩
          have h1 := (hlex i _ (Array.getElem?_eq_getElem hi)).1 e he hbd
          have h2 := ih e.on h1 (by omega)
          have h3 : e.on < listed.size := by omega
          simpa [h3] using h2
        rw [hr] at this
        cases this
      · rfl
  have hend : ∀ (fuel : Nat) (listed : Array Bool) (a1 : Act) (w1 : World), (∃ s, (List.range ops.size).filter (fun i => !listed.getD i true) = s ∧ s.length = fuel) → RunInv md n ops C a0 S listed a1 w1 → Fresh ops F listed a1 w1 → (∀ i, i < n → listed.getD i true = true) → wpAny P md ops Q' fuel listed a1 w1 := by
    intro fuel listed a1 w1 hcnt hI hJ hall
    have hsz := path_sizes hS0 hn hst n (Nat.le_refl _)
    refine hfin fuel listed a1 w1 hcnt hI.lsize hall hI.tail ⟨hI.world, hI.defers.trans hsz.2.symm, hI.size.trans hsz.1.symm, fun t => ?_⟩ hJ
    by_cases hw : ∃ (j : Nat) (oj : Oper), j < n ∧ ops[j]? = some oj ∧ oj.dst = some t
    · obtain ⟨j, oj, hjn, hj, hd⟩ := hw
      have hjl := (Array.getElem?_eq_some_iff.1 hj).1
      have hl : listed.getD j false = true := by
        have h1 := hall j hjn
        have h2 : j < listed.size := by rw [hI.lsize]; exact hjl
        simpa [h2] using h1
      have h1 := hI.done j oj t hj hl hd
      have h2 := path_other hS0 hn hst hin (t := t) (a1.tmps.getD t undef) w1 (j + 1) (n - (j + 1)) (by omega) (fun i oi h1 h2 hi hdi => by
        have := hone i j oi oj t hi hj hdi hd; omega)
      rw [show j + 1 + (n - (j + 1)) = n by omega] at h2
      exact h2.2 h1
    · have h1 := hI.rest t (fun j oj hj hl hd => by
        by_cases hjn : j < n
        · exact hw ⟨j, oj, hjn, hj, hd⟩
        · have hjl := (Array.getElem?_eq_some_iff.1 hj).1
          have := hI.tail j (by omega) hjl
          have h2 : j < listed.size := by rw [hI.lsize]; exact hjl
          simp [h2] at this hl
          rw [this] at hl; cases hl)
      have h2 := path_other hS0 hn hst hin (t := t) (a1.tmps.getD t undef) w1 0 n (by omega) (fun j oj _ h2 hj hd => hw ⟨j, oj, by omega, hj, hd⟩)
      rw [Nat.zero_add] at h2
      exact h2.2 ((slot0 hS0 t _ w1).2 h1)
  intro fuel
  induction fuel with
  | zero =>
    rintro listed a1 w1 ⟨s, hs, hlen⟩ hI hJ
    refine hend 0 listed a1 w1 ⟨s, hs, hlen⟩ hI hJ (fun i hi => ?_)
    have hnil : s = [] := List.eq_nil_of_length_eq_zero hlen
    subst hnil
    have := List.filter_eq_nil_iff.1 hs i (List.mem_range.2 (by omega))
    simpa using this
  | succ fuel ih =>
    rintro listed a1 w1 ⟨s, hs, hlen⟩ hI hJ
    by_cases hdone : ∀ i, i < n → listed.getD i true = true
    · exact hend (fuel + 1) listed a1 w1 ⟨s, hs, hlen⟩ hI hJ hdone
    refine ⟨fun h0 => absurd (fun i hi => hready listed hI.lsize h0 i (by omega)) hdone, fun i hi => ?_⟩
    obtain ⟨hun, oi, hoi, hall⟩ := mem_ready.1 hi
    have hin' : i < n := by
      rcases Nat.lt_or_ge i n with h | h
      · exact h
      · exfalso
        refine hdone (fun j hj => ?_)
        have h2 : j < listed.size := by rw [hI.lsize]; omega
        have h1 := (hwait i oi h hoi j hj).listed hI.closed hall
        simpa [h2] using h1
    have hil := (Array.getElem?_eq_some_iff.1 hoi).1
    have hill : i < listed.size := by rw [hI.lsize]; exact hil
    have hunf : listed.getD i false = false := by simpa [hill] using hun
    have hcount : ∃ s', (List.range ops.size).filter (fun j => !(listed.setIfInBounds i true).getD j true) = s' ∧ s'.length = fuel := by
      refine ⟨_, rfl, ?_⟩
      have hn : (List.range ops.size).Nodup := List.nodup_range
      have e : (List.range ops.size).filter (fun j => !(listed.setIfInBounds i true).getD j true) = ((List.range ops.size).filter fun j => !listed.getD j true).erase i := by
        rw [List.Nodup.erase_eq_filter (List.Pairwise.filter _ hn), List.filter_filter]
        apply List.filter_congr
        intro j hj
        by_cases hji : j = i
        · subst hji; simp [hill]
        · rw [getD_set_ne true (Ne.symm hji)]; simp [hji]
      rw [e, List.length_erase_of_mem (List.mem_filter.2 ⟨List.mem_range.2 hil, by simp only [hun]; rfl⟩), hs, hlen]
      rfl
    -- what the operation looks at is as the walk had it
    have hlook : ∀ t ∈ oi.looksAt ops, slotIs (S i).1 (S i).2 t (a1.tmps.getD t undef) w1 := by
      intro t ht
      have hback : (∀ (j : Nat) (oj : Oper), ops[j]? = some oj → oj.dst = some t → i ≤ j) → (∀ (j : Nat) (oj : Oper), ops[j]? = some oj → oj.dst = some t → listed.getD j false = false) → slotIs (S i).1 (S i).2 t (a1.tmps.getD t undef) w1 := by
        intro h1 h2
        have h3 := path_other hS0 hn hst hin (t := t) (a1.tmps.getD t undef) w1 0 i (by omega) (fun j oj _ hj ho hd => by have := h1 j oj ho hd; omega)
        rw [Nat.zero_add] at h3
        refine h3.2 ((slot0 hS0 t _ w1).2 (hI.rest t (fun j oj hj hl hd => ?_)))
        rw [h2 j oj hj hd] at hl; cases hl
      by_cases hw : ∃ (j : Nat) (oj : Oper), ops[j]? = some oj ∧ oj.dst = some t
      · obtain ⟨j, oj, hj, hd⟩ := hw
        have huniq : ∀ (j' : Nat) (oj' : Oper), ops[j']? = some oj' → oj'.dst = some t → j' = j := fun j' oj' h1 h2 => hone j' j oj' oj t h1 hj h2 hd
        rcases Nat.lt_trichotomy j i with hji | hji | hji
        · rcases (hlex j oj hj).2 i oi hji hoi with ⟨e, he, hb, heq⟩ | hap
          · have hl : listed.getD j false = true := by rw [← heq]; exact hall e he hb
            have h1 := hI.done j oj t hj hl hd
            have h2 := path_other hS0 hn hst hin (t := t) (a1.tmps.getD t undef) w1 (j + 1) (i - (j + 1)) (by omega) (fun j' oj' h1 _ h3 h4 => by have := huniq j' oj' h3 h4; omega)
            rw [show j + 1 + (i - (j + 1)) = i by omega] at h2
            exact h2.2 h1
          · exact absurd ht ((Oper.apart_spec hap).1 t hd)
        · subst hji
          refine hback (fun j' oj' h1 h2 => by have := huniq j' oj' h1 h2; omega) (fun j' oj' h1 h2 => by rw [huniq j' oj' h1 h2]; exact hunf)
        · rcases (hlex i oi hoi).2 j oj hji hj with ⟨e, he, hb, heq⟩ | hap
          · refine hback (fun j' oj' h1 h2 => by have := huniq j' oj' h1 h2; omega) (fun j' oj' h1 h2 => ?_)
            rw [huniq j' oj' h1 h2]
            rcases hlj : listed.getD j false with _ | _
            · rfl
            · have := hI.closed j oj hj hlj e he hb
              rw [heq, hunf] at this; cases this
          · exact absurd ht ((Oper.apart_spec hap).2.2 t hd)
      · exact hback (fun j oj h1 h2 => absurd ⟨j, oj, h1, h2⟩ hw) (fun j oj h1 h2 => absurd ⟨j, oj, h1, h2⟩ hw)
    have hsz := path_sizes hS0 hn hst i (by omega)
    have hsame : a1.tmps.size = (S i).2.tmps.size := hI.size.trans hsz.1.symm
    -- behind it
    have hnext : ∀ (v : Value) (w' : World), (∀ d, oi.dst = some d → slotIs (S (i + 1)).1 (S (i + 1)).2 d v w') → Below w1.heap.size w1 w' → RunInv md n ops C a0 S (listed.setIfInBounds i true) (a1.put oi.dst v) w' := by
      intro v w' hv hb
      have hget : ∀ t, oi.dst ≠ some t → (a1.put oi.dst v).tmps.getD t undef = a1.tmps.getD t undef := by
        intro t ht
        cases hd : oi.dst with
        | none => rfl
        | some d => rw [put_getD a1 d t v (by rw [hI.size]; exact hin i oi d hoi hd), if_neg (fun e => ht (by rw [hd, e]))]
      have hlist : ∀ j, (listed.setIfInBounds i true).getD j false = true → j = i ∨ listed.getD j false = true := by
        intro j hj
        by_cases hji : j = i
        · exact .inl hji
        · rw [getD_set_ne false (Ne.symm hji)] at hj; exact .inr hj
      refine ⟨hC _ _ hI.world hb, (put_defers _ _ _).trans hI.defers, (put_size _ _ _).trans hI.size, by simpa using hI.lsize, fun j oj hj hl e he hbd => ?_, fun j hnj hjl => ?_, fun j oj d hj hl hd => ?_, fun t ht => ?_⟩
      · rcases hlist j hl with rfl | hl
        · obtain rfl : oj = oi := by rw [hoi] at hj; simpa using hj.symm
          exact getD_set_true (hall e he hbd)
        · exact getD_set_true (hI.closed j oj hj hl e he hbd)
      · rw [getD_set_ne true (by omega)]; exact hI.tail _ hnj hjl
      · rcases hlist j hl with rfl | hl
        · obtain rfl : oj = oi := by rw [hoi] at hj; simpa using hj.symm
          rw [hd, put_getD a1 d d v (by rw [hI.size]; exact hin j oj d hj hd), if_pos rfl]
          exact hv d hd
        · have hne : oi.dst ≠ some d := by
            intro h
            have := hone i j oi oj d hoi hj h hd
            subst this
            rw [hunf] at hl; cases hl
          rw [hget d hne]
          exact (hI.done j oj d hj hl hd).keep hb
      · have hne : oi.dst ≠ some t := ht i oi hoi (by simp [hill])
        rw [hget t hne]
        exact hI.rest t (fun j oj hj hl => ht j oj hj (getD_set_true hl))
    have hlistF : ∀ j, (listed.setIfInBounds i true).getD j false = true → j = i ∨ listed.getD j false = true := by
      intro j hj
      by_cases hji : j = i
      · exact .inl hji
      · rw [getD_set_ne false (Ne.symm hji)] at hj; exact .inr hj
    have hfresh : ∀ (v : Value) (w' : World), (∀ d, oi.dst = some d → d ∈ F → v = .pointer (some ⟨w1.heap.size, 0, none⟩) ∧ w1.heap.size < w'.heap.size) → Below w1.heap.size w1 w' → Fresh ops F (listed.setIfInBounds i true) (a1.put oi.dst v) w' := by
      intro v w' hv hb
      have hget : ∀ t, oi.dst ≠ some t → (a1.put oi.dst v).tmps.getD t undef = a1.tmps.getD t undef := by
        intro t ht
        cases hd : oi.dst with
        | none => rfl
        | some d => rw [put_getD a1 d t v (by rw [hI.size]; exact hin i oi d hoi hd), if_neg (fun e => ht (by rw [hd, e]))]
      have hself : ∀ d, oi.dst = some d → (a1.put oi.dst v).tmps.getD d undef = v := by
        intro d hd
        rw [hd, put_getD a1 d d v (by rw [hI.size]; exact hin i oi d hoi hd), if_pos rfl]
      have hother : ∀ (j : Nat) (oj : Oper) (d : Tmp), ops[j]? = some oj → oj.dst = some d → j ≠ i → oi.dst ≠ some d := fun j oj d hj hd hji h => hji (hone j i oj oi d hj hoi hd h)
      refine ⟨fun j oj d hj hl hd hdF => ?_, fun j k oj ok d d' hj hk hlj hlk hd hd' hdF hdF' hne => ?_⟩
      · by_cases hji : j = i
        · subst hji
          obtain rfl : oj = oi := by rw [hoi] at hj; simpa using hj.symm
          obtain ⟨h1, h2⟩ := hv d hd hdF
          exact ⟨_, (hself d hd).trans h1, h2⟩
        · obtain ⟨bk, h1, h2⟩ := hJ.1 j oj d hj ((hlistF j hl).resolve_left hji) hd hdF
          exact ⟨bk, (hget d (hother j oj d hj hd hji)).trans h1, Nat.lt_of_lt_of_le h2 hb.size⟩
      · by_cases hji : j = i
        · subst hji
          obtain rfl : oj = oi := by rw [hoi] at hj; simpa using hj.symm
          have hki : k ≠ j := fun e => by
            subst e
            obtain rfl : ok = oj := by rw [hoi] at hk; simpa using hk.symm
            rw [hd] at hd'
            exact hne (by simpa using hd')
          obtain ⟨bk, h1, h2⟩ := hJ.1 k ok d' hk ((hlistF k hlk).resolve_left hki) hd' hdF'
          rw [hself d hd, hget d' (hother k ok d' hk hd' hki), h1, (hv d hd hdF).1]
          intro e
          simp at e
        · by_cases hki : k = i
          · subst hki
            obtain rfl : ok = oi := by rw [hoi] at hk; simpa using hk.symm
            obtain ⟨bk, h1, h2⟩ := hJ.1 j oj d hj ((hlistF j hlj).resolve_left hji) hd hdF
            rw [hself d' hd', hget d (hother j oj d hj hd hji), h1, (hv d' hd' hdF').1]
            intro e
            simp at e
          · rw [hget d (hother j oj d hj hd hji), hget d' (hother k ok d' hk hd' hki)]
            exact hJ.2 j k oj ok d d' hj hk ((hlistF j hlj).resolve_left hji) ((hlistF k hlk).resolve_left hki) hd hd' hdF hdF' hne
    have hkey : ∀ d, oi.dst = some d → (S i).1.lookup d = none := fun d hd => path_keys hS0 hn hst i (by omega) (fun j oj h1 h2 h3 => by have := hone j i oj oi d h2 hoi h3 hd; omega)
    have hstep := hst i oi hin' hoi
    unfold wpOp
    simp only [hoi]
    generalize hSi : S i = si at *
    generalize hSj : S (i + 1) = sj at *
    obtain ⟨Ii, ai⟩ := si
    obtain ⟨Ij, aj⟩ := sj
    simp only at hstep hlook hnext hsame hkey
    cases hstep with
    | skip hg hw =>
      rw [wanted_looks hg hsame hlook, hw]
      simp only [Bool.false_eq_true, if_false]
      refine ih _ _ _ hcount (hnext undef w1 (fun d hd => ?_) (Below.refl _ _)) (hfresh undef w1 (fun d hd hdF => ?_) (Below.refl _ _))
      · unfold slotIs
        rw [hkey d hd, hd]
        simp only
        rw [put_getD ai d d undef (by rw [← hsame, hI.size]; exact hin i oi d hoi hd), if_pos rfl]
      · have h1 := (hF i oi d hoi hd hdF).1
        unfold Region.wanted at hw
        rw [h1] at hw
        cases hw
    | val v hg hw h =>
      rw [wanted_looks hg hsame hlook, hw]
      simp only [if_true]
      refine .inl (with_fresh hI.size hin hoi hF (h a1 w1 hI.world hlook) (fun u w' hu hb hv => ih _ _ _ hcount (hnext u w' (fun d hd => ?_) hb) (hfresh u w' hv hb)))
      unfold slotIs
      rw [hkey d hd, hd]
      simp only
      rw [put_getD ai d d v (by rw [← hsame, hI.size]; exact hin i oi d hoi hd), if_pos rfl]
      exact hu
    | ty d R hd hg hw h =>
      rw [wanted_looks hg hsame hlook, hw]
      simp only [if_true]
      refine .inl (with_fresh hI.size hin hoi hF (h a1 w1 hI.world hlook) (fun u w' hu hb hv => ih _ _ _ hcount (hnext u w' (fun d' hd' => ?_) hb) (hfresh u w' hv hb)))
      obtain rfl : d = d' := by rw [hd] at hd'; simpa using hd'
      unfold slotIs
      rw [List.lookup_cons]
      simp only [BEq.rfl]
      exact hu

theorem rep_no (m j : Nat) (hl : (Array.replicate m false).getD j false = true) : False := by
  by_cases hi : j < m <;> simp [hi] at hl

/-- operations in one forced order, one behind the other -/
theorem tail_any {md : Region.Mode} {Q : Exit → Act → World → Prop} {l : List Oper} {n : Nat} (hlt : ∀ (i : Nat) (oi : Oper), l.toArray[i]? = some oi → ∀ e ∈ oi.after, Region.binds md e = true → e.on < i)
    (hch : ∀ (m i : Nat) (oi : Oper), n ≤ m → m < i → l.toArray[i]? = some oi → ∃ e ∈ oi.after, Region.binds md e = true ∧ e.on = m) :
    ∀ (r m : Nat) (listed : Array Bool) (a1 : Act) (w1 : World), m + r = l.length → n ≤ m → listed.size = l.toArray.size → (∀ i, i < m → listed.getD i true = true) → (∀ j, m ≤ j → j < l.toArray.size → listed.getD j true = false) →
      wpList P l.toArray Q (l.drop m) a1 w1 → wpAny P md l.toArray Q r listed a1 w1
  | 0, m, listed, a1, w1, hm, hnm, hls, hall, htail, hq => by
    have hnr : Region.ready md l.toArray listed = [] := by
      apply List.eq_nil_iff_forall_not_mem.2
      intro i hi
      obtain ⟨h0, o, ho, _⟩ := mem_ready.1 hi
      have h1 := (Array.getElem?_eq_some_iff.1 ho).1
      have := hall i (by simp at h1; omega)
      rw [this] at h0; cases h0
    rw [List.drop_eq_nil_of_le (by omega)] at hq
    exact wpAny_done hnr hq 0
  | r + 1, m, listed, a1, w1, hm, hnm, hls, hall, htail, hq => by
    have hml : m < l.length := by omega
    obtain ⟨o, ho⟩ : ∃ o, l[m]? = some o := ⟨l[m], by simp [hml]⟩
    have hon : l.toArray[m]? = some o := by simpa using ho
    have hdrop : l.drop m = o :: l.drop (m + 1) := by
      rw [List.drop_eq_getElem_cons hml]
      rw [List.getElem?_eq_getElem hml] at ho
      rw [Option.some.inj ho]
    rw [hdrop] at hq
    have hnl : listed.getD m true = false := htail m (Nat.le_refl _) (by simpa using hml)
    refine ⟨fun h0 => ?_, fun i hi => ?_⟩
    · exfalso
      have : m ∈ Region.ready md l.toArray listed := by
        refine mem_ready.2 ⟨hnl, o, hon, fun e he hb => ?_⟩
        have h1 := hlt m o hon e he hb
        have h2 := hall e.on h1
        have h3 : e.on < listed.size := by rw [hls]; simp; omega
        simpa [h3] using h2
      rw [h0] at this; cases this
    · obtain ⟨hun, oi, hoi, hal⟩ := mem_ready.1 hi
      have hil := (Array.getElem?_eq_some_iff.1 hoi).1
      obtain rfl : i = m := by
        rcases Nat.lt_trichotomy i m with h1 | h1 | h1
        · rw [hall i h1] at hun; cases hun
        · exact h1
        · exfalso
          obtain ⟨e, he, hb, heq⟩ := hch m i oi hnm h1 hoi
          have h2 := hal e he hb
          rw [heq] at h2
          have h3 : m < listed.size := by rw [hls]; simp; omega
          simp [h3] at h2 hnl
          rw [h2] at hnl; cases hnl
      have hmono : ∀ a2 w2, wpList P l.toArray Q (l.drop (i + 1)) a2 w2 → wpAny P md l.toArray Q r (listed.setIfInBounds i true) a2 w2 := fun a2 w2 h2 =>
        tail_any hlt hch r (i + 1) _ a2 w2 (by omega) (by omega) (by simpa using hls) (fun j hj => by
          by_cases hji : j = i
          · subst hji
            have h3 : j < listed.size := by rw [hls]; exact hil
            simp [h3]
          · rw [getD_set_ne true (Ne.symm hji)]; exact hall j (by omega)) (fun j hj hjl => by
          rw [getD_set_ne true (by omega)]; exact htail j (by omega) hjl) h2
      unfold wpOp
      simp only [hon]
      unfold wpList at hq
      split
      · rename_i hw
        rw [if_pos hw] at hq
        exact hq.imp (Oper.wp_mono hmono) (fun h => h)
      · rename_i hw
        rw [if_neg hw] at hq
        exact hmono _ _ hq

/-- the operations from n on wait for all before n (some by way of others), and each for the one ahead of it -/
def reachB (l : List Oper) : Nat → Oper → Nat → Bool
  | 0, _, _ => false
  | f + 1, o, j => o.after.any fun e => Region.binds .any e && (e.on == j || match l[e.on]? with
      | some o2 => reachB l f o2 j
      | none => false)
theorem reachB_is {l : List Oper} : ∀ (f : Nat) (o : Oper) (j : Nat), reachB l f o j = true → Reach .any l.toArray o j
  | 0, _, _, h => by cases h
  | f + 1, o, j, h => by
    unfold reachB at h
    obtain ⟨e, he, hb⟩ := Array.any_eq_true'.1 h
    simp only [Bool.and_eq_true, Bool.or_eq_true, beq_iff_eq] at hb
    rcases hb.2 with h1 | h1
    · exact .one he hb.1 h1
    · split at h1
      · rename_i o2 ho2
        exact .step he hb.1 (by simpa using ho2) (reachB_is f o2 j h1)
      · cases h1
def waitsFB (l : List Oper) (n : Nat) : Bool := (List.range l.length).all fun i => decide (i < n) || match l[i]? with
  | some o => ((List.range n).all fun j => reachB l 12 o j) && (List.range i).all fun m => decide (m < n) || o.after.any fun e => Region.binds .any e && e.on == m
  | none => false

/-- THE REGION: all but the last ones by the walk, whose new blocks are apart; then the last ones -/
theorem wp_region_laxF {id : Nat} {Q : Exit → Act → World → Prop} {a : Act} {w : World} {l : List Oper} (n : Nat) (hn : n ≤ l.length) (F : List Tmp) (ob : Obj)
    (hF : ∀ (i : Nat) (oi : Oper) (d : Tmp), l[i]? = some oi → oi.dst = some d → d ∈ F → oi.guard = none ∧ ∀ a1 w K Q, oi.wp P a1 w K Q ↔ K (a1.put (some d) (.pointer (some ⟨w.heap.size, 0, none⟩))) (w.alloc ob))
    (hFn : ∀ (i : Nat) (oi : Oper) (d : Tmp), l[i]? = some oi → oi.dst = some d → d ∈ F → i < n) (hFa : ∀ d ∈ F, ∃ (i : Nat) (oi : Oper), l[i]? = some oi ∧ oi.dst = some d)
    (hm : P.follows .mixedOrders = true) (hB : Region.lexB .any l.toArray = true) (hD : dstsB l a.tmps.size = true) (hW : waitsFB l n = true)
    (h : wpT P l.toArray (Below w.heap.size w) (fun a' w' => (∀ d d', d ∈ F → d' ∈ F → d ≠ d' → a'.tmps.getD d undef ≠ a'.tmps.getD d' undef) → wpList P l.toArray Q (l.drop n) a' w') (l.take n) [] a) : (Code.region id l.toArray true).wp P Q a w := by
  obtain ⟨S, hS0, hst, hfin⟩ := wpT_path (l.take n) [] a h
  have hB' : Region.lexFrom .any l.toArray l.toArray.size 0 (Array.replicate l.toArray.size false) = true := by
    simp only [Region.lexB, Bool.and_eq_true] at hB; exact hB.2
  have hlen : (l.take n).length = n := by rw [List.length_take]; omega
  have hlex : ∀ (i : Nat) (oi : Oper), l.toArray[i]? = some oi → (∀ e ∈ oi.after, Region.binds .any e = true → e.on < i) ∧ ∀ j oj, i < j → l.toArray[j]? = some oj → (∃ e ∈ oj.after, Region.binds .any e = true ∧ e.on = i) ∨ oi.apart l.toArray oj = true :=
    fun i oi hi => lexFrom_free _ 0 _ hB' (by simp) (fun i => by by_cases hi : i < l.length <;> simp [hi]; omega) (by simp) i oi (Nat.zero_le _) hi
  have hW' : ∀ (i : Nat) (oi : Oper), n ≤ i → l[i]? = some oi → (∀ j, j < n → Reach .any l.toArray oi j) ∧ ∀ m, n ≤ m → m < i → ∃ e ∈ oi.after, Region.binds .any e = true ∧ e.on = m := by
    intro i oi hi hoi
    have hil := (List.getElem?_eq_some_iff.1 hoi).1
    unfold waitsFB at hW
    have h1 := List.all_eq_true.1 hW i (List.mem_range.2 hil)
    rw [hoi] at h1
    simp only [Bool.or_eq_true, decide_eq_true_eq, Bool.and_eq_true] at h1
    rcases h1 with h1 | ⟨h1, h2⟩
    · omega
    refine ⟨fun j hj => reachB_is _ _ _ (List.all_eq_true.1 h1 j (List.mem_range.2 hj)), fun m hm1 hm2 => ?_⟩
    · have := List.all_eq_true.1 h2 m (List.mem_range.2 hm2)
      simp only [Bool.or_eq_true, decide_eq_true_eq] at this
      rcases this with h3 | h3
      · omega
      obtain ⟨e, he, hb⟩ := Array.any_eq_true'.1 h3
      simp only [Bool.and_eq_true, beq_iff_eq] at hb
      exact ⟨e, he, hb.1, hb.2⟩
  refine wp_region_any hm ?_
  refine wpAny_laxF (P := P) (ops := l.toArray) (C := Below w.heap.size w) (md := .any) (a0 := a) (S := S) (fun w1 w2 h1 h2 => h1.trans (h2.mono h1.size)) hS0 (n := n) (by simpa using hn) (fun k o' hk ho' => hst k o' (by rw [List.getElem?_take_of_lt hk]; simpa using ho'))
    (fun k o d hk hd => dsts_lt hD (k := k) (by simpa using hk) hd) (fun j k x y d hj hk hx hy => dsts_one hD (j := j) (k := k) (by simpa using hj) (by simpa using hk) hx hy)
    hlex F ob (fun i oi d hi => hF i oi d (by simpa using hi)) (fun i oi hi hoi j hj => ?_)
    (fun fuel listed a1 w1 ⟨s, hs, hcnt⟩ hls hall htail hr hfr => ?_) _ _ _ _ ⟨_, rfl, ?_⟩ (start_inv ⟨rfl, rfl, rfl, Nat.le_refl _, fun _ _ => rfl⟩) ⟨fun j oj d hj hl => ?_, fun j k oj ok d d' hj hk hl => ?_⟩
  · exact (hW' i oi hi (by simpa using hoi)).1 j hj
  · have hq := hfin a1 w1 (by rw [hlen]; exact hr) (fun d d' hd hd' hne => by
      obtain ⟨i, oi, hoi, hdi⟩ := hFa d hd
      obtain ⟨k, ok, hok, hdk⟩ := hFa d' hd'
      have g : ∀ (i : Nat) (oi : Oper) (d : Tmp), l[i]? = some oi → oi.dst = some d → d ∈ F → listed.getD i false = true := by
        intro i oi d h1 h2 h3
        have h4 := hall i (hFn i oi d h1 h2 h3)
        have h5 : i < listed.size := by rw [hls]; simpa using (List.getElem?_eq_some_iff.1 h1).1
        simpa [h5] using h4
      exact hfr.2 i k oi ok d d' (by simpa using hoi) (by simpa using hok) (g i oi d hoi hdi hd) (g k ok d' hok hdk hd') hdi hdk hd hd' hne)
    have hfuel : fuel = l.length - n := by
      rw [← hcnt, ← hs]
      have : (List.range l.toArray.size).filter (fun i => !listed.getD i true) = (List.range (l.length - n)).map (n + ·) := by
        have e : l.toArray.size = n + (l.length - n) := by simp; omega
        rw [e, List.range_add, List.filter_append]
        have h1 : (List.range n).filter (fun i => !listed.getD i true) = [] := by
          apply List.filter_eq_nil_iff.2
          intro i hi
          rw [hall i (List.mem_range.1 hi)]
          simp
        have h2 : ((List.range (l.length - n)).map (n + ·)).filter (fun i => !listed.getD i true) = (List.range (l.length - n)).map (n + ·) := by
          apply List.filter_eq_self.2
          intro i hi
          obtain ⟨k, hk, rfl⟩ := List.mem_map.1 hi
          have := List.mem_range.1 hk
          rw [htail (n + k) (by omega) (by omega)]
          rfl
        rw [h1, h2, List.nil_append]
      rw [this]; simp
    rw [hfuel]
    exact tail_any (n := n) (fun i oi hi => (hlex i oi hi).1) (fun m i oi h1 h2 hoi => (hW' i oi (by omega) (by simpa using hoi)).2 m h1 h2) _ n listed a1 w1 (by omega) (Nat.le_refl _) hls hall htail hq
  · rw [count_none]; simp
  · exact (rep_no _ _ hl).elim
  · exact (rep_no _ _ hl).elim

/-- the slots of F are written by 'new' alone, all ahead of n -/
def freshB (l : List Oper) (n : Nat) (F : List Tmp) (t : TypeId) : Bool :=
  ((List.range l.length).all fun i => match l[i]? with
    | some o => (match o.dst with
      | some d => !F.contains d || (decide (i < n) && o.guard.isNone && (match o.op with | .alloc t' => t' == t | _ => false))
      | none => true)
    | none => true) && F.all fun d => l.any fun o => o.dst == some d
theorem freshB_at {l : List Oper} {n : Nat} {F : List Tmp} {t : TypeId} (h : freshB l n F t = true) (i : Nat) (oi : Oper) (d : Tmp) (hi : l[i]? = some oi) (hd : oi.dst = some d) (hdF : d ∈ F) : i < n ∧ oi.guard = none ∧ oi.op = .alloc t := by
  unfold freshB at h
  simp only [Bool.and_eq_true] at h
  have h1 := List.all_eq_true.1 h.1 i (List.mem_range.2 (List.getElem?_eq_some_iff.1 hi).1)
  rw [hi] at h1
  simp only [hd] at h1
  have hc : F.contains d = true := by simpa using hdF
  rw [hc] at h1
  simp only [Bool.not_true, Bool.false_or, Bool.and_eq_true, decide_eq_true_eq, Option.isNone_iff_eq_none] at h1
  refine ⟨h1.1.1, h1.1.2, ?_⟩
  have h2 := h1.2
  split at h2
  · rename_i t' e
    rw [e]
    have : t' = t := by simpa using h2
    rw [this]
  · cases h2
theorem freshB_all {l : List Oper} {n : Nat} {F : List Tmp} {t : TypeId} (h : freshB l n F t = true) : ∀ d ∈ F, ∃ (i : Nat) (oi : Oper), l[i]? = some oi ∧ oi.dst = some d := by
  intro d hd
  unfold freshB at h
  simp only [Bool.and_eq_true] at h
  obtain ⟨o, ho, he⟩ := List.any_eq_true.1 (List.all_eq_true.1 h.2 d hd)
  obtain ⟨i, hi⟩ := List.mem_iff_getElem?.1 ho
  exact ⟨i, o, hi, by simpa using he⟩

/-- the same over a list -/
theorem wp_laxF_list {id : Nat} {Q : Exit → Act → World → Prop} {w : World} {l : List Oper} {fs : List Value} {ds : List Deferred} (n : Nat) (hn : decide (n ≤ l.length) = true) (F : List Tmp) (t : TypeId) (ob : Obj)
    (hal : ∀ (o : Oper), o.op = .alloc t → ∀ a1 w K Q, o.wp P a1 w K Q ↔ K (a1.put o.dst (.pointer (some ⟨w.heap.size, 0, none⟩))) (w.alloc ob)) (hFB : freshB l n F t = true)
    (hm : P.follows .mixedOrders = true) (hB : Region.lexB .any l.toArray = true) (hD : dstsB l fs.length = true) (hW : waitsFB l n = true)
    (h : wpL P l.toArray (Below w.heap.size w) (fun a' w' => (∀ d d', d ∈ F → d' ∈ F → d ≠ d' → a'.tmps.getD d undef ≠ a'.tmps.getD d' undef) → wpList P l.toArray Q (l.drop n) a' w') ds (l.take n) [] fs) : (Code.region id l.toArray true).wp P Q ⟨fs.toArray, ds⟩ w :=
  wp_region_laxF n (of_decide_eq_true hn) F ob (fun i oi d hi hd hdF => ⟨(freshB_at hFB i oi d hi hd hdF).2.1, fun a1 w K Q => by
      have := hal oi (freshB_at hFB i oi d hi hd hdF).2.2 a1 w K Q
      rw [hd] at this
      exact this⟩) (fun i oi d hi hd hdF => (freshB_at hFB i oi d hi hd hdF).1) (freshB_all hFB) hm hB (by simpa using hD) hW h
/-- no new blocks: the last operations wait for all others, some by way of another; at the end 'intro _' -/
theorem wp_laxW_list {id : Nat} {Q : Exit → Act → World → Prop} {w : World} {l : List Oper} {fs : List Value} {ds : List Deferred} (n : Nat) (hn : decide (n ≤ l.length) = true)
    (hm : P.follows .mixedOrders = true) (hB : Region.lexB .any l.toArray = true) (hD : dstsB l fs.length = true) (hW : waitsFB l n = true)
    (h : wpL P l.toArray (Below w.heap.size w) (fun a' w' => (∀ d d', d ∈ ([] : List Tmp) → d' ∈ ([] : List Tmp) → d ≠ d' → a'.tmps.getD d undef ≠ a'.tmps.getD d' undef) → wpList P l.toArray Q (l.drop n) a' w') ds (l.take n) [] fs) : (Code.region id l.toArray true).wp P Q ⟨fs.toArray, ds⟩ w :=
  wp_region_laxF n (of_decide_eq_true hn) [] (.cells #[] 0) (fun _ _ _ _ _ h => by cases h) (fun _ _ _ _ _ h => by cases h) (fun _ h => by cases h) hm hB (by simpa using hD) hW h
end
end Go.Own
