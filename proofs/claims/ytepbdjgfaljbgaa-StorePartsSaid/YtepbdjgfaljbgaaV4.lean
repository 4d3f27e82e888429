/- Merged: LaxD StbE StbF StbH StbI StbJ StoD StoE LawStoA -/
import Derived.Sort.Grow
import Derived.Shelf.SlSortCmp.WholeK
import Derived.Shelf.SlSortCmp.NoneTotal
import Derived.Test.YtepbdjgfaljbgaaV1
import Derived.Test.YtepbdjgfaljbgaaV2
import Derived.Test.YtepbdjgfaljbgaaV3
set_option linter.unusedVariables false
section
namespace Go.Own.Grn
open Go.RowKit Go.Own Go.Sort
structure Grw (w w' : World) : Prop where
  below : Below w.heap.size w w'
  drawn : w.drawn ≤ w'.drawn
theorem Grw.refl (w : World) : Grw w w := ⟨Below.refl _ _, Nat.le_refl _⟩
theorem Grw.trans {a b c : World} (h : Grw a b) (g : Grw b c) : Grw a c := ⟨h.below.trans (g.below.mono h.below.size), Nat.le_trans h.drawn g.drawn⟩
theorem Grw.draw (w : World) : Grw w { w with drawn := w.drawn + 1 } := ⟨⟨rfl, rfl, rfl, Nat.le_refl _, fun _ _ => rfl⟩, Nat.le_succ _⟩
theorem Grw.is {w w' : World} (h : Grw w w') : ∃ q os, w' = grow (w.drewN q) os := by
  refine ⟨w'.drawn - w.drawn, w'.heap.extract w.heap.size w'.heap.size, ?_⟩
  have hd := h.drawn
  have hh : w'.heap = w.heap ++ w'.heap.extract w.heap.size w'.heap.size := by
    have hs := h.below.size
    apply Array.ext_getElem?
    intro i
    by_cases hi : i < w.heap.size
    · rw [Array.getElem?_append_left hi]; exact h.below.block i hi
    · rw [Array.getElem?_append_right (by omega), Array.getElem?_extract]
      by_cases h2 : i < w'.heap.size
      · rw [if_pos (by omega)]; congr 1; omega
      · rw [if_neg (by omega), Array.getElem?_eq_none (by omega)]
  obtain ⟨h1, h2, h3, h4, h5⟩ := w'
  simp only [grow, World.drewN, World.mk.injEq]
  refine ⟨hh, h.below.tape, ?_, h.below.os, h.below.output⟩
  simp only at hd ⊢
  omega
theorem Grw.of {w : World} {q : Nat} {os : Array Obj} : Grw w (grow (w.drewN q) os) := by
  refine ⟨⟨rfl, rfl, rfl, ?_, fun k hk => ?_⟩, Nat.le_add_right _ _⟩
  · simp [grow, World.drewN]
  · show (w.heap ++ os)[k]? = _
    rw [Array.getElem?_append_left hk]


section
variable {P : Program} {ops : Array Oper} {C : World → Prop}

/-- an operation gives what R says, wherever it is carried out -/
def Gives (P : Program) (ops : Array Oper) (C : World → Prop) (o : Oper) (I : Lx) (a : Act) (R : Ty) : Prop :=
  ∀ a1 w, C w → (∀ t ∈ o.looksAt ops, slotIs I a t (a1.tmps.getD t undef) w) → ∀ (K : Act → World → Prop) (Q : Exit → Act → World → Prop),
    (∀ v w', R.holds v w' → Grw w w' → K (a1.put o.dst v) w') → o.wp P a1 w K Q

inductive StepT (P : Program) (ops : Array Oper) (C : World → Prop) (o : Oper) : Lx → Act → Lx → Act → Prop
  | skip {I a} (hg : guardKnown ops o I = true) (hw : Region.wanted o (yielded ops a.tmps) = false) : StepT P ops C o I a I (a.put o.dst undef)
  | val {I a} (v : Value) (hg : guardKnown ops o I = true) (hw : Region.wanted o (yielded ops a.tmps) = true) (h : Gives P ops C o I a (Ty.is v)) : StepT P ops C o I a I (a.put o.dst v)
  | ty {I a} (d : Tmp) (R : Ty) (hd : o.dst = some d) (hg : guardKnown ops o I = true) (hw : Region.wanted o (yielded ops a.tmps) = true) (h : Gives P ops C o I a R) : StepT P ops C o I a ((d, R) :: I) a

/-- THE WALK, in the order of the text -/
def wpT (P : Program) (ops : Array Oper) (C : World → Prop) (Q : Act → World → Prop) : List Oper → Lx → Act → Prop
  | [], I, a => ∀ a1 w1, Rep C I a a1 w1 → Q a1 w1
  | o :: rest, I, a => ∃ I' a', StepT P ops C o I a I' a' ∧ wpT P ops C Q rest I' a'

theorem wpT_path {Q : Act → World → Prop} : ∀ (l : List Oper) (I : Lx) (a : Act), wpT P ops C Q l I a →
    ∃ S : Nat → Lx × Act, S 0 = (I, a) ∧ (∀ k o, l[k]? = some o → StepT P ops C o (S k).1 (S k).2 (S (k + 1)).1 (S (k + 1)).2) ∧ ∀ a1 w1, Rep C (S l.length).1 (S l.length).2 a1 w1 → Q a1 w1
  | [], I, a, h => ⟨fun _ => (I, a), rfl, fun k o hk => by simp at hk, h⟩
  | o :: rest, I, a, ⟨I', a', h1, h2⟩ => by
    obtain ⟨S, g0, g1, g2⟩ := wpT_path rest I' a' h2
    refine ⟨fun k => match k with | 0 => (I, a) | k + 1 => S k, rfl, fun k o' hk => ?_, fun a1 w1 hr => g2 a1 w1 (by simpa using hr)⟩
    cases k with
    | zero =>
      obtain rfl : o = o' := by simpa using hk
      show StepT P ops C o I a (S 0).1 (S 0).2
      rw [g0]; exact h1
    | succ k => exact g1 k o' (by simpa using hk)

theorem StepT.size {o : Oper} {I I' : Lx} {a a' : Act} (h : StepT P ops C o I a I' a') : a'.tmps.size = a.tmps.size ∧ a'.defers = a.defers := by
  cases h
  · exact ⟨put_size _ _ _, put_defers _ _ _⟩
  · exact ⟨put_size _ _ _, put_defers _ _ _⟩
  · exact ⟨rfl, rfl⟩

/-- a slot that the operation does not write stays -/
theorem StepT.other {o : Oper} {I I' : Lx} {a a' : Act} (h : StepT P ops C o I a I' a') {t : Tmp} (hin : ∀ d, o.dst = some d → d < a.tmps.size) (ht : o.dst ≠ some t) (v : Value) (w : World) : slotIs I' a' t v w ↔ slotIs I a t v w := by
  have hput : ∀ u, (a.put o.dst u).tmps.getD t undef = a.tmps.getD t undef := by
    intro u
    cases hd : o.dst with
    | none => rfl
    | some d => rw [put_getD a d t u (hin d hd), if_neg (fun e => ht (by rw [hd, e]))]
  cases h
  · unfold slotIs; rw [hput]
  · unfold slotIs; rw [hput]
  · rename_i d R hd hg hw h
    unfold slotIs
    rw [List.lookup_cons]
    have : (t == d) = false := by simp; intro e; exact ht (by rw [hd, e])
    simp only [this]

theorem path_sizes {a0 : Act} {S : Nat → Lx × Act} (hS0 : S 0 = ([], a0)) {n : Nat} (hn : n ≤ ops.size) (hst : ∀ (k : Nat) (o : Oper), k < n → ops[k]? = some o → StepT P ops C o (S k).1 (S k).2 (S (k + 1)).1 (S (k + 1)).2) :
    ∀ k, k ≤ n → (S k).2.tmps.size = a0.tmps.size ∧ (S k).2.defers = a0.defers
  | 0, _ => by rw [hS0]; exact ⟨rfl, rfl⟩
  | k + 1, hk => by
    have h := path_sizes hS0 hn hst k (by omega)
    have g := (hst k ops[k] (by omega) (Array.getElem?_eq_getElem (by omega))).size
    exact ⟨g.1.trans h.1, g.2.trans h.2⟩

theorem path_other {a0 : Act} {S : Nat → Lx × Act} (hS0 : S 0 = ([], a0)) {n : Nat} (hn : n ≤ ops.size) (hst : ∀ (k : Nat) (o : Oper), k < n → ops[k]? = some o → StepT P ops C o (S k).1 (S k).2 (S (k + 1)).1 (S (k + 1)).2)
    (hin : ∀ (k : Nat) (o : Oper) (d : Tmp), ops[k]? = some o → o.dst = some d → d < a0.tmps.size) {t : Tmp} (v : Value) (w : World) (m : Nat) :
    ∀ q, m + q ≤ n → (∀ j oj, m ≤ j → j < m + q → ops[j]? = some oj → oj.dst ≠ some t) → (slotIs (S (m + q)).1 (S (m + q)).2 t v w ↔ slotIs (S m).1 (S m).2 t v w)
  | 0, _, _ => Iff.rfl
  | q + 1, hq, hno => by
    have ih := path_other hS0 hn hst hin (t := t) v w m q (by omega) (fun j oj h1 h2 => hno j oj h1 (by omega))
    have hk : ops[m + q]? = some ops[m + q] := Array.getElem?_eq_getElem (by omega)
    have hs := path_sizes hS0 hn hst (m + q) (by omega)
    exact ((hst (m + q) _ (by omega) hk).other (fun d hd => by rw [hs.1]; exact hin _ _ d hk hd) (hno (m + q) _ (by omega) (by omega) hk) v w).trans ih

theorem path_keys {a0 : Act} {S : Nat → Lx × Act} (hS0 : S 0 = ([], a0)) {n : Nat} (hn : n ≤ ops.size) (hst : ∀ (k : Nat) (o : Oper), k < n → ops[k]? = some o → StepT P ops C o (S k).1 (S k).2 (S (k + 1)).1 (S (k + 1)).2) {t : Tmp} :
    ∀ k, k ≤ n → (∀ (j : Nat) (oj : Oper), j < k → ops[j]? = some oj → oj.dst ≠ some t) → (S k).1.lookup t = none
  | 0, _, _ => by rw [hS0]; rfl
  | k + 1, hk, hno => by
    have ih := path_keys hS0 hn hst k (by omega) (fun j oj h1 h2 => hno j oj (by omega) h2)
    have hs := hst k ops[k] (by omega) (Array.getElem?_eq_getElem (by omega))
    have hd := hno k ops[k] (by omega) (Array.getElem?_eq_getElem (by omega))
    generalize S k = si at *
    generalize S (k + 1) = sj at *
    obtain ⟨Ii, ai⟩ := si
    obtain ⟨Ij, aj⟩ := sj
    cases hs with
    | skip => exact ih
    | val => exact ih
    | ty d R hdd =>
      show List.lookup t ((d, R) :: Ii) = none
      rw [List.lookup_cons]
      have : (t == d) = false := by simp; intro e; exact hd (by rw [hdd, e])
      simp only [this]
      exact ih

/-- WHATEVER ORDER IS DRAWN -/
theorem wpAny_lax {md : Region.Mode} {Q' : Exit → Act → World → Prop} (hC : ∀ w w', C w → Grw w w' → C w') {a0 : Act} {S : Nat → Lx × Act} (hS0 : S 0 = ([], a0))
    {n : Nat} (hn : n ≤ ops.size) (hst : ∀ (k : Nat) (o : Oper), k < n → ops[k]? = some o → StepT P ops C o (S k).1 (S k).2 (S (k + 1)).1 (S (k + 1)).2)
    (hin : ∀ (k : Nat) (o : Oper) (d : Tmp), ops[k]? = some o → o.dst = some d → d < a0.tmps.size)
    (hone : ∀ (j k : Nat) (x y : Oper) (d : Tmp), ops[j]? = some x → ops[k]? = some y → x.dst = some d → y.dst = some d → j = k)
    (hlex : ∀ (i : Nat) (oi : Oper), ops[i]? = some oi → (∀ e ∈ oi.after, Region.binds md e = true → e.on < i) ∧ ∀ j oj, i < j → ops[j]? = some oj → (∃ e ∈ oj.after, Region.binds md e = true ∧ e.on = i) ∨ oi.apart ops oj = true)
    (hwait : ∀ (i : Nat) (oi : Oper), n ≤ i → ops[i]? = some oi → ∀ j, j < n → ∃ e ∈ oi.after, Region.binds md e = true ∧ e.on = j)
    (hfin : ∀ (fuel : Nat) (listed : Array Bool) (a1 : Act) (w1 : World), (∃ s, (List.range ops.size).filter (fun i => !listed.getD i true) = s ∧ s.length = fuel) → listed.size = ops.size → (∀ i, i < n → listed.getD i true = true) → (∀ j, n ≤ j → j < ops.size → listed.getD j true = false) → Rep C (S n).1 (S n).2 a1 w1 → wpAny P md ops Q' fuel listed a1 w1) :
    ∀ (fuel : Nat) (listed : Array Bool) (a1 : Act) (w1 : World), (∃ s, (List.range ops.size).filter (fun i => !listed.getD i true) = s ∧ s.length = fuel) → RunInv md n ops C a0 S listed a1 w1 → wpAny P md ops Q' fuel listed a1 w1 := by
  -- all that is not listed: none is ready only if none is left
  have hready : ∀ listed : Array Bool, listed.size = ops.size → Region.ready md ops listed = [] → ∀ i, i < ops.size → listed.getD i true = true := by
    intro listed hls hr i
    induction i using Nat.strongRecOn with
    | _ i ih =>
      intro hi
      rcases hb : listed.getD i true with _ | _
      · exfalso
        have : i ∈ Region.ready md ops listed := by
          refine mem_ready.2 ⟨hb, ops[i], Array.getElem?_eq_getElem hi, fun e he hbd => ?_⟩
          have h1 := (hlex i _ (Array.getElem?_eq_getElem hi)).1 e he hbd
          have h2 := ih e.on h1 (by omega)
          have h3 : e.on < listed.size := by omega
          simpa [h3] using h2
        rw [hr] at this
        cases this
      · rfl
  have hend : ∀ (fuel : Nat) (listed : Array Bool) (a1 : Act) (w1 : World), (∃ s, (List.range ops.size).filter (fun i => !listed.getD i true) = s ∧ s.length = fuel) → RunInv md n ops C a0 S listed a1 w1 → (∀ i, i < n → listed.getD i true = true) → wpAny P md ops Q' fuel listed a1 w1 := by
    intro fuel listed a1 w1 hcnt hI hall
    have hsz := path_sizes hS0 hn hst n (Nat.le_refl _)
    refine hfin fuel listed a1 w1 hcnt hI.lsize hall hI.tail ⟨hI.world, hI.defers.trans hsz.2.symm, hI.size.trans hsz.1.symm, fun t => ?_⟩
    by_cases hw : ∃ (j : Nat) (oj : Oper), j < n ∧ ops[j]? = some oj ∧ oj.dst = some t
    · obtain ⟨j, oj, hjn, hj, hd⟩ := hw
      have hjl := (Array.getElem?_eq_some_iff.1 hj).1
      have hl : listed.getD j false = true := by
        have h1 := hall j hjn
        have h2 : j < listed.size := by rw [hI.lsize]; exact hjl
        simpa [h2] using h1
      have h1 := hI.done j oj t hj hl hd
      have h2 := path_other hS0 hn hst hin (t := t) (a1.tmps.getD t undef) w1 (j + 1) (n - (j + 1)) (by omega) (fun i oi h1 h2 hi hdi => by
        have := hone i j oi oj t hi hj hdi hd; omega)
      rw [show j + 1 + (n - (j + 1)) = n by omega] at h2
      exact h2.2 h1
    · have h1 := hI.rest t (fun j oj hj hl hd => by
        by_cases hjn : j < n
        · exact hw ⟨j, oj, hjn, hj, hd⟩
        · have hjl := (Array.getElem?_eq_some_iff.1 hj).1
          have := hI.tail j (by omega) hjl
          have h2 : j < listed.size := by rw [hI.lsize]; exact hjl
          simp [h2] at this hl
          rw [this] at hl; cases hl)
      have h2 := path_other hS0 hn hst hin (t := t) (a1.tmps.getD t undef) w1 0 n (by omega) (fun j oj _ h2 hj hd => hw ⟨j, oj, by omega, hj, hd⟩)
      rw [Nat.zero_add] at h2
      exact h2.2 ((slot0 hS0 t _ w1).2 h1)
  intro fuel
  induction fuel with
  | zero =>
    rintro listed a1 w1 ⟨s, hs, hlen⟩ hI
    refine hend 0 listed a1 w1 ⟨s, hs, hlen⟩ hI (fun i hi => ?_)
    have hnil : s = [] := List.eq_nil_of_length_eq_zero hlen
    subst hnil
    have := List.filter_eq_nil_iff.1 hs i (List.mem_range.2 (by omega))
    simpa using this
  | succ fuel ih =>
    rintro listed a1 w1 ⟨s, hs, hlen⟩ hI
    by_cases hdone : ∀ i, i < n → listed.getD i true = true
    · exact hend (fuel + 1) listed a1 w1 ⟨s, hs, hlen⟩ hI hdone
    refine ⟨fun h0 => absurd (fun i hi => hready listed hI.lsize h0 i (by omega)) hdone, fun i hi => ?_⟩
    obtain ⟨hun, oi, hoi, hall⟩ := mem_ready.1 hi
    have hin' : i < n := by
      rcases Nat.lt_or_ge i n with h | h
      · exact h
      · exfalso
        refine hdone (fun j hj => ?_)
        obtain ⟨e, he, hb, heq⟩ := hwait i oi h hoi j hj
        have h1 := hall e he hb
        rw [heq] at h1
        have h2 : j < listed.size := by rw [hI.lsize]; omega
        simpa [h2] using h1
    have hil := (Array.getElem?_eq_some_iff.1 hoi).1
    have hill : i < listed.size := by rw [hI.lsize]; exact hil
    have hunf : listed.getD i false = false := by simpa [hill] using hun
    have hcount : ∃ s', (List.range ops.size).filter (fun j => !(listed.setIfInBounds i true).getD j true) = s' ∧ s'.length = fuel := by
      refine ⟨_, rfl, ?_⟩
      have hn : (List.range ops.size).Nodup := List.nodup_range
      have e : (List.range ops.size).filter (fun j => !(listed.setIfInBounds i true).getD j true) = ((List.range ops.size).filter fun j => !listed.getD j true).erase i := by
        rw [List.Nodup.erase_eq_filter (List.Pairwise.filter _ hn), List.filter_filter]
        apply List.filter_congr
        intro j hj
        by_cases hji : j = i
        · subst hji; simp [hill]
        · rw [getD_set_ne true (Ne.symm hji)]; simp [hji]
      rw [e, List.length_erase_of_mem (List.mem_filter.2 ⟨List.mem_range.2 hil, by simp only [hun]; rfl⟩), hs, hlen]
      rfl
    -- what the operation looks at is as the walk had it
    have hlook : ∀ t ∈ oi.looksAt ops, slotIs (S i).1 (S i).2 t (a1.tmps.getD t undef) w1 := by
      intro t ht
      have hback : (∀ (j : Nat) (oj : Oper), ops[j]? = some oj → oj.dst = some t → i ≤ j) → (∀ (j : Nat) (oj : Oper), ops[j]? = some oj → oj.dst = some t → listed.getD j false = false) → slotIs (S i).1 (S i).2 t (a1.tmps.getD t undef) w1 := by
        intro h1 h2
        have h3 := path_other hS0 hn hst hin (t := t) (a1.tmps.getD t undef) w1 0 i (by omega) (fun j oj _ hj ho hd => by have := h1 j oj ho hd; omega)
        rw [Nat.zero_add] at h3
        refine h3.2 ((slot0 hS0 t _ w1).2 (hI.rest t (fun j oj hj hl hd => ?_)))
        rw [h2 j oj hj hd] at hl; cases hl
      by_cases hw : ∃ (j : Nat) (oj : Oper), ops[j]? = some oj ∧ oj.dst = some t
      · obtain ⟨j, oj, hj, hd⟩ := hw
        have huniq : ∀ (j' : Nat) (oj' : Oper), ops[j']? = some oj' → oj'.dst = some t → j' = j := fun j' oj' h1 h2 => hone j' j oj' oj t h1 hj h2 hd
        rcases Nat.lt_trichotomy j i with hji | hji | hji
        · rcases (hlex j oj hj).2 i oi hji hoi with ⟨e, he, hb, heq⟩ | hap
          · have hl : listed.getD j false = true := by rw [← heq]; exact hall e he hb
            have h1 := hI.done j oj t hj hl hd
            have h2 := path_other hS0 hn hst hin (t := t) (a1.tmps.getD t undef) w1 (j + 1) (i - (j + 1)) (by omega) (fun j' oj' h1 _ h3 h4 => by have := huniq j' oj' h3 h4; omega)
            rw [show j + 1 + (i - (j + 1)) = i by omega] at h2
            exact h2.2 h1
          · exact absurd ht ((Oper.apart_spec hap).1 t hd)
        · subst hji
          refine hback (fun j' oj' h1 h2 => by have := huniq j' oj' h1 h2; omega) (fun j' oj' h1 h2 => by rw [huniq j' oj' h1 h2]; exact hunf)
        · rcases (hlex i oi hoi).2 j oj hji hj with ⟨e, he, hb, heq⟩ | hap
          · refine hback (fun j' oj' h1 h2 => by have := huniq j' oj' h1 h2; omega) (fun j' oj' h1 h2 => ?_)
            rw [huniq j' oj' h1 h2]
            rcases hlj : listed.getD j false with _ | _
            · rfl
            · have := hI.closed j oj hj hlj e he hb
              rw [heq, hunf] at this; cases this
          · exact absurd ht ((Oper.apart_spec hap).2.2 t hd)
      · exact hback (fun j oj h1 h2 => absurd ⟨j, oj, h1, h2⟩ hw) (fun j oj h1 h2 => absurd ⟨j, oj, h1, h2⟩ hw)
    have hsz := path_sizes hS0 hn hst i (by omega)
    have hsame : a1.tmps.size = (S i).2.tmps.size := hI.size.trans hsz.1.symm
    -- behind it
    have hnext : ∀ (v : Value) (w' : World), (∀ d, oi.dst = some d → slotIs (S (i + 1)).1 (S (i + 1)).2 d v w') → Grw w1 w' → RunInv md n ops C a0 S (listed.setIfInBounds i true) (a1.put oi.dst v) w' := by
      intro v w' hv hb
      have hget : ∀ t, oi.dst ≠ some t → (a1.put oi.dst v).tmps.getD t undef = a1.tmps.getD t undef := by
        intro t ht
        cases hd : oi.dst with
        | none => rfl
        | some d => rw [put_getD a1 d t v (by rw [hI.size]; exact hin i oi d hoi hd), if_neg (fun e => ht (by rw [hd, e]))]
      have hlist : ∀ j, (listed.setIfInBounds i true).getD j false = true → j = i ∨ listed.getD j false = true := by
        intro j hj
        by_cases hji : j = i
        · exact .inl hji
        · rw [getD_set_ne false (Ne.symm hji)] at hj; exact .inr hj
      refine ⟨hC _ _ hI.world hb, (put_defers _ _ _).trans hI.defers, (put_size _ _ _).trans hI.size, by simpa using hI.lsize, fun j oj hj hl e he hbd => ?_, fun j hnj hjl => ?_, fun j oj d hj hl hd => ?_, fun t ht => ?_⟩
      · rcases hlist j hl with rfl | hl
        · obtain rfl : oj = oi := by rw [hoi] at hj; simpa using hj.symm
          exact getD_set_true (hall e he hbd)
        · exact getD_set_true (hI.closed j oj hj hl e he hbd)
      · rw [getD_set_ne true (by omega)]; exact hI.tail _ hnj hjl
      · rcases hlist j hl with rfl | hl
        · obtain rfl : oj = oi := by rw [hoi] at hj; simpa using hj.symm
          rw [hd, put_getD a1 d d v (by rw [hI.size]; exact hin j oj d hj hd), if_pos rfl]
          exact hv d hd
        · have hne : oi.dst ≠ some d := by
            intro h
            have := hone i j oi oj d hoi hj h hd
            subst this
            rw [hunf] at hl; cases hl
          rw [hget d hne]
          exact (hI.done j oj d hj hl hd).keep hb.below
      · have hne : oi.dst ≠ some t := ht i oi hoi (by simp [hill])
        rw [hget t hne]
        exact hI.rest t (fun j oj hj hl => ht j oj hj (getD_set_true hl))
    have hkey : ∀ d, oi.dst = some d → (S i).1.lookup d = none := fun d hd => path_keys hS0 hn hst i (by omega) (fun j oj h1 h2 h3 => by have := hone j i oj oi d h2 hoi h3 hd; omega)
    have hstep := hst i oi hin' hoi
    unfold wpOp
    simp only [hoi]
    generalize hSi : S i = si at *
    generalize hSj : S (i + 1) = sj at *
    obtain ⟨Ii, ai⟩ := si
    obtain ⟨Ij, aj⟩ := sj
    simp only at hstep hlook hnext hsame hkey
    cases hstep with
    | skip hg hw =>
      rw [wanted_looks hg hsame hlook, hw]
      simp only [Bool.false_eq_true, if_false]
      refine ih _ _ _ hcount (hnext undef w1 (fun d hd => ?_) (Grw.refl _))
      unfold slotIs
      rw [hkey d hd, hd]
      simp only
      rw [put_getD ai d d undef (by rw [← hsame, hI.size]; exact hin i oi d hoi hd), if_pos rfl]
    | val v hg hw h =>
      rw [wanted_looks hg hsame hlook, hw]
      simp only [if_true]
      refine .inl (h a1 w1 hI.world hlook _ _ (fun u w' hu hb => ih _ _ _ hcount (hnext u w' (fun d hd => ?_) hb)))
      unfold slotIs
      rw [hkey d hd, hd]
      simp only
      rw [put_getD ai d d v (by rw [← hsame, hI.size]; exact hin i oi d hoi hd), if_pos rfl]
      exact hu
    | ty d R hd hg hw h =>
      rw [wanted_looks hg hsame hlook, hw]
      simp only [if_true]
      refine .inl (h a1 w1 hI.world hlook _ _ (fun u w' hu hb => ih _ _ _ hcount (hnext u w' (fun d' hd' => ?_) hb)))
      obtain rfl : d = d' := by rw [hd] at hd'; simpa using hd'
      unfold slotIs
      rw [List.lookup_cons]
      simp only [BEq.rfl]
      exact hu

/-- THE REGION -/
theorem wp_region_lax {id : Nat} {Q : Exit → Act → World → Prop} {a : Act} {w : World} {l : List Oper} (hm : P.follows .mixedOrders = true) (hB : Region.lexB .any l.toArray = true) (hD : dstsB l a.tmps.size = true)
    (h : wpT P l.toArray (Grw w) (fun a' w' => Q .normal a' w') l [] a) : (Code.region id l.toArray true).wp P Q a w := by
  obtain ⟨S, hS0, hst, hfin⟩ := wpT_path l [] a h
  have hB' : Region.lexFrom .any l.toArray l.toArray.size 0 (Array.replicate l.toArray.size false) = true := by
    simp only [Region.lexB, Bool.and_eq_true] at hB; exact hB.2
  refine wp_region_any hm ?_
  refine wpAny_lax (P := P) (ops := l.toArray) (C := Grw w) (md := .any) (a0 := a) (S := S) (fun w1 w2 h1 h2 => h1.trans h2) hS0 (n := l.toArray.size) (Nat.le_refl _) (fun k o _ hk => hst k o (by simpa using hk))
    (fun k o d hk hd => dsts_lt hD (k := k) (by simpa using hk) hd) (fun j k x y d hj hk hx hy => dsts_one hD (j := j) (k := k) (by simpa using hj) (by simpa using hk) hx hy)
    (fun i oi hi => lexFrom_free _ 0 _ hB' (by simp) (fun i => ?_) (by simp) i oi (Nat.zero_le _) hi) (fun i oi hi ho => absurd (Array.getElem?_eq_some_iff.1 ho).1 (by omega))
    (fun fuel listed a1 w1 ⟨s, hs, hlen⟩ hls hall _ hr => ?_) _ _ _ _ ⟨_, rfl, ?_⟩ (start_inv (Grw.draw w))
  · by_cases hi : i < l.length
    · simp [hi]
    · simp [hi]; omega
  · have hq : Q .normal a1 w1 := hfin a1 w1 (by simpa using hr)
    have hnr : Region.ready .any l.toArray listed = [] := by
      apply List.eq_nil_iff_forall_not_mem.2
      intro i hi
      obtain ⟨h0, o, ho, _⟩ := mem_ready.1 hi
      have := hall i (Array.getElem?_eq_some_iff.1 ho).1
      rw [this] at h0; cases h0
    exact wpAny_done hnr hq fuel
  · rw [count_none]; simp

/-- THE REGION WITH A STORE AT ITS END: all else by the walk, then the last operation -/
theorem wp_region_laxT {id : Nat} {Q : Exit → Act → World → Prop} {a : Act} {w : World} {l : List Oper} (n : Nat) (hn : l.length = n + 1) (hm : P.follows .mixedOrders = true) (hB : Region.lexB .any l.toArray = true) (hD : dstsB l a.tmps.size = true) (hW : waitsB l = true)
    (h : wpT P l.toArray (Grw w) (fun a' w' => wpList P l.toArray Q (l.drop n) a' w') (l.take n) [] a) : (Code.region id l.toArray true).wp P Q a w := by
  obtain ⟨S, hS0, hst, hfin⟩ := wpT_path (l.take n) [] a h
  have hB' : Region.lexFrom .any l.toArray l.toArray.size 0 (Array.replicate l.toArray.size false) = true := by
    simp only [Region.lexB, Bool.and_eq_true] at hB; exact hB.2
  have hsz : l.toArray.size = n + 1 := by simpa using hn
  obtain ⟨o, ho⟩ : ∃ o, l[n]? = some o := ⟨l[n], by simp [hn]⟩
  have hlast : l.getLast? = some o := by rw [List.getLast?_eq_getElem?, hn]; exact ho
  have hdrop : l.drop n = [o] := by
    have h1 : n < l.length := by omega
    rw [List.drop_eq_getElem_cons h1, List.drop_eq_nil_of_le (by omega)]
    rw [List.getElem?_eq_getElem h1] at ho
    rw [Option.some.inj ho]
  have hlen : (l.take n).length = n := by rw [List.length_take]; omega
  refine wp_region_any hm ?_
  refine wpAny_lax (P := P) (ops := l.toArray) (C := Grw w) (md := .any) (a0 := a) (S := S) (fun w1 w2 h1 h2 => h1.trans h2) hS0 (n := n) (by omega) (fun k o' hk ho' => hst k o' (by rw [List.getElem?_take_of_lt hk]; simpa using ho'))
    (fun k o d hk hd => dsts_lt hD (k := k) (by simpa using hk) hd) (fun j k x y d hj hk hx hy => dsts_one hD (j := j) (k := k) (by simpa using hj) (by simpa using hk) hx hy)
    (fun i oi hi => lexFrom_free _ 0 _ hB' (by simp) (fun i => ?_) (by simp) i oi (Nat.zero_le _) hi) (fun i oi hi hoi j hj => ?_)
    (fun fuel listed a1 w1 ⟨s, hs, hcnt⟩ hls hall htail hr => ?_) _ _ _ _ ⟨_, rfl, ?_⟩ (start_inv (Grw.draw w))
  · by_cases hi : i < l.length
    · simp [hi]
    · simp [hi]; omega
  · have hil := (Array.getElem?_eq_some_iff.1 hoi).1
    obtain rfl : i = n := by omega
    obtain rfl : o = oi := by have : l[i]? = some oi := by simpa using hoi
                              rw [ho] at this; exact Option.some.inj this
    unfold waitsB at hW
    rw [hlast] at hW
    simp only [List.all_eq_true, List.mem_range] at hW
    obtain ⟨e, he, hb⟩ := Array.any_eq_true'.1 (hW j (by omega))
    simp only [Bool.and_eq_true, beq_iff_eq] at hb
    exact ⟨e, he, hb.1, hb.2⟩
  · -- only the last one is left
    have hq : wpList P l.toArray Q [o] a1 w1 := by
      have := hfin a1 w1 (by rw [hlen]; exact hr)
      rwa [hdrop] at this
    have hnl : listed.getD n true = false := htail n (Nat.le_refl _) (by omega)
    have hfuel : fuel = 1 := by
      rw [← hcnt, ← hs, hsz, List.range_succ, List.filter_append]
      have : (List.range n).filter (fun i => !listed.getD i true) = [] := by
        apply List.filter_eq_nil_iff.2
        intro i hi
        rw [hall i (List.mem_range.1 hi)]
        simp
      rw [this]
      simp only [List.nil_append, List.filter_cons, hnl]
      rfl
    subst hfuel
    have hon : l.toArray[n]? = some o := by simpa using ho
    refine ⟨fun h0 => ?_, fun i hi => ?_⟩
    · exfalso
      have : n ∈ Region.ready .any l.toArray listed := by
        refine mem_ready.2 ⟨hnl, o, hon, fun e he hb => ?_⟩
        have h1 := (lexFrom_free _ 0 _ hB' (by simp) (fun i => by by_cases hi : i < l.length <;> simp [hi]; omega) (by simp) n o (Nat.zero_le _) hon).1 e he hb
        have h2 := hall e.on h1
        have h3 : e.on < listed.size := by omega
        simpa [h3] using h2
      rw [h0] at this; cases this
    · obtain ⟨hun, oi, hoi, _⟩ := mem_ready.1 hi
      have hil := (Array.getElem?_eq_some_iff.1 hoi).1
      obtain rfl : i = n := by
        rcases Nat.lt_or_ge i n with h1 | h1
        · rw [hall i h1] at hun; cases hun
        · omega
      have hnr : Region.ready .any l.toArray (listed.setIfInBounds i true) = [] := by
        apply List.eq_nil_iff_forall_not_mem.2
        intro j hj
        obtain ⟨h0, oj, hoj, _⟩ := mem_ready.1 hj
        have hjl := (Array.getElem?_eq_some_iff.1 hoj).1
        by_cases hji : j = i
        · subst hji
          have h3 : j < listed.size := by omega
          simp [h3] at h0
        · rw [getD_set_ne true (Ne.symm hji), hall j (by omega)] at h0; cases h0
      have hmono : ∀ a2 w2, wpList P l.toArray Q [] a2 w2 → wpAny P .any l.toArray Q 0 (listed.setIfInBounds i true) a2 w2 := fun a2 w2 h2 => wpAny_done hnr h2 0
      unfold wpOp
      simp only [hon]
      unfold wpList at hq
      split
      · rename_i hw
        rw [if_pos hw] at hq
        exact hq.imp (Oper.wp_mono hmono) (fun h => h)
      · rename_i hw
        rw [if_neg hw] at hq
        exact hmono _ _ hq
  · rw [count_none]; simp

/-! ### The steps of the walk -/
section steps
variable {Q : Act → World → Prop} {o : Oper} {rest : List Oper} {I : Lx} {a : Act}

theorem wpT_skip (hg : guardKnown ops o I = true) (hw : Region.wanted o (yielded ops a.tmps) = false) (k : wpT P ops C Q rest I (a.put o.dst undef)) : wpT P ops C Q (o :: rest) I a :=
  ⟨_, _, .skip hg hw, k⟩

theorem wpT_move {x : Operand} (v : Value) (ho : o.op = .move x) (hv : a.eval x = v) (hx : known I x = true) (hg : guardKnown ops o I = true) (hw : Region.wanted o (yielded ops a.tmps) = true) (k : wpT P ops C Q rest I (a.put o.dst v)) : wpT P ops C Q (o :: rest) I a :=
  ⟨_, _, .val v hg hw (fun a1 w _ ht K Q' hK => by
    have e := known_eval hx (by rw [ho]; simp [Op.operands]) ht
    unfold Oper.wp
    simp only [ho, execOp]
    rw [e, hv]
    exact hK _ _ rfl (Grw.refl _)), k⟩

theorem wpT_assign {x : Operand} (v : Value) (ho : o.op = .assign x) (hv : a.eval x = v) (hx : known I x = true) (hg : guardKnown ops o I = true) (hw : Region.wanted o (yielded ops a.tmps) = true) (k : wpT P ops C Q rest I (a.put o.dst v)) : wpT P ops C Q (o :: rest) I a :=
  ⟨_, _, .val v hg hw (fun a1 w _ ht K Q' hK => by
    have e := known_eval hx (by rw [ho]; simp [Op.operands]) ht
    unfold Oper.wp
    simp only [ho, execOp]
    rw [e, hv]
    exact hK _ _ rfl (Grw.refl _)), k⟩

/-- an operation over known slots: run once, in any world of the class -/
theorem wpT_run (v : Value) (hs : notSelect o = true) (hl : (o.op.operands.toList.all (known I)) = true) (hg : guardKnown ops o I = true) (hw : Region.wanted o (yielded ops a.tmps) = true)
    (hrun : ∀ w, C w → (execOp a.eval o).run P w = .ok (.value v) w) (k : wpT P ops C Q rest I (a.put o.dst v)) : wpT P ops C Q (o :: rest) I a :=
  ⟨_, _, .val v hg hw (fun a1 w hC ht K Q' hK => by
    have e : execOp a1.eval o = execOp a.eval o := execOp_congr o (fun cs b h => by simp [notSelect, h] at hs) fun x hx => known_eval (by
      simp only [List.all_eq_true] at hl
      exact hl x (by simpa using hx)) hx ht
    unfold Oper.wp
    rw [e, hrun w hC]
    exact hK _ _ rfl (Grw.refl _)), k⟩

/-- .. and the value is a new thing -/
theorem wpT_runT {d : Tmp} (R : Ty) (hd : o.dst = some d) (hs : notSelect o = true) (hl : (o.op.operands.toList.all (known I)) = true) (hg : guardKnown ops o I = true) (hw : Region.wanted o (yielded ops a.tmps) = true)
    (hrun : ∀ w, C w → ∃ v w', (execOp a.eval o).run P w = .ok (.value v) w' ∧ R.holds v w' ∧ Grw w w') (k : wpT P ops C Q rest ((d, R) :: I) a) : wpT P ops C Q (o :: rest) I a :=
  ⟨_, _, .ty d R hd hg hw (fun a1 w hC ht K Q' hK => by
    have e : execOp a1.eval o = execOp a.eval o := execOp_congr o (fun cs b h => by simp [notSelect, h] at hs) fun x hx => known_eval (by
      simp only [List.all_eq_true] at hl
      exact hl x (by simpa using hx)) hx ht
    obtain ⟨v, w', h1, h3, h2⟩ := hrun w hC
    unfold Oper.wp
    rw [e, h1]
    exact hK _ _ h3 h2), k⟩

/-- a call over known slots -/
theorem wpT_call (v : Value) {f : FuncId} (args : Array Value) (hs : notSelect o = true) (hl : (o.op.operands.toList.all (known I)) = true) (hg : guardKnown ops o I = true) (hw : Region.wanted o (yielded ops a.tmps) = true)
    (hent : ∀ w, (execOp a.eval o).run P w = .ok (.enter f args) w) (hc : ∀ w, C w → Calls P f args w fun e w' => e = .returned v ∧ Grw w w') (k : wpT P ops C Q rest I (a.put o.dst v)) : wpT P ops C Q (o :: rest) I a :=
  ⟨_, _, .val v hg hw (fun a1 w hC ht K Q' hK => by
    have e : execOp a1.eval o = execOp a.eval o := execOp_congr o (fun cs b h => by simp [notSelect, h] at hs) fun x hx => known_eval (by
      simp only [List.all_eq_true] at hl
      exact hl x (by simpa using hx)) hx ht
    unfold Oper.wp
    rw [e, hent w]
    exact (hc w hC).mono fun e w' ⟨he, hb⟩ => by subst he; exact hK _ _ rfl hb), k⟩

/-- a call over one slot that is not known, and known ones -/
theorem gives_callU {t : Tmp} {R R' : Ty} {f : FuncId} (args : Value → Array Value) (hx : I.lookup t = some R) (hm : (Operand.tmp t) ∈ o.op.operands) (hs : notSelect o = true) (hl : (o.op.operands.toList.all fun x => known I x || isTmp t x) = true)
    (hent : ∀ (u : Value) w (ρ : Operand → Value), ρ (.tmp t) = u → (∀ x, known I x = true → ρ x = a.eval x) → (execOp ρ o).run P w = .ok (.enter f (args u)) w)
    (hc : ∀ (u : Value) w, C w → R.holds u w → Calls P f (args u) w fun e w' => ∃ v, e = .returned v ∧ R'.holds v w' ∧ Grw w w') : Gives P ops C o I a R' := fun a1 w hC ht K Q' hK => by
    have h : slotIs I a t (a1.tmps.getD t undef) w := ht t (looks_of_operand hm rfl)
    unfold slotIs at h
    rw [hx] at h
    have e : execOp a1.eval o = execOp (fun x => if isTmp t x = true then a1.tmps.getD t undef else a.eval x) o := execOp_congr o (fun cs b h => by simp [notSelect, h] at hs) fun x hxm => by
      by_cases hxt : isTmp t x = true
      · rw [if_pos hxt, isTmp_eq hxt]; rfl
      · rw [if_neg hxt]
        simp only [List.all_eq_true] at hl
        have h1 := hl x (by simpa using hxm)
        have h2 : known I x = true := by simpa [hxt] using h1
        exact known_eval h2 hxm ht
    have h1 := hent (a1.tmps.getD t undef) w (fun x => if isTmp t x = true then a1.tmps.getD t undef else a.eval x) (by rw [if_pos (isTmp_self t)]) (fun x hk => by
      by_cases hxt : isTmp t x = true
      · rw [isTmp_eq hxt] at hk; simp [known, hx] at hk
      · rw [if_neg hxt])
    unfold Oper.wp
    rw [e, h1]
    exact (hc _ w hC h).mono fun e w' ⟨v, he, hv, hb⟩ => by subst he; exact hK _ _ hv hb

theorem wpT_callUV {t : Tmp} {R : Ty} (v : Value) {f : FuncId} (args : Value → Array Value) (hx : I.lookup t = some R) (hm : (Operand.tmp t) ∈ o.op.operands) (hs : notSelect o = true) (hl : (o.op.operands.toList.all fun x => known I x || isTmp t x) = true) (hg : guardKnown ops o I = true) (hw : Region.wanted o (yielded ops a.tmps) = true)
    (hent : ∀ (u : Value) w (ρ : Operand → Value), ρ (.tmp t) = u → (∀ x, known I x = true → ρ x = a.eval x) → (execOp ρ o).run P w = .ok (.enter f (args u)) w)
    (hc : ∀ (u : Value) w, C w → R.holds u w → Calls P f (args u) w fun e w' => e = .returned v ∧ Grw w w') (k : wpT P ops C Q rest I (a.put o.dst v)) : wpT P ops C Q (o :: rest) I a :=
  ⟨_, _, .val v hg hw (gives_callU (R' := Ty.is v) args hx hm hs hl hent (fun u w h1 h2 => (hc u w h1 h2).mono fun _ _ h => ⟨v, h.1, rfl, h.2⟩)), k⟩

theorem wpT_end (hk : ((I.map (·.1)).Nodup && (I.map (·.1)).all (· < a.tmps.size)) = true) (h : ∀ w, C w → FinQ Q I a w) : wpT P ops C Q [] I a := fun a1 w1 hr => by
  simp only [Bool.and_eq_true, decide_eq_true_eq, List.all_eq_true] at hk
  exact rep_fin I a a1 w1 rfl hk.1 hk.2 hr (h w1 hr.world)
end steps


/-! ### The same over a frame that is a list -/
section lists
variable {Q : Act → World → Prop} {o : Oper} {rest : List Oper} {I : Lx} {fs : List Value} {ds : List Deferred}

/-- THE WALK over a list -/
def wpL (P : Program) (ops : Array Oper) (C : World → Prop) (Q : Act → World → Prop) (ds : List Deferred) (l : List Oper) (I : Lx) (fs : List Value) : Prop := wpT P ops C Q l I (mkA fs ds)

theorem wp_lax_list {id : Nat} {Q : Exit → Act → World → Prop} {w : World} {l : List Oper} (hm : P.follows .mixedOrders = true) (hB : Region.lexB .any l.toArray = true) (hD : dstsB l fs.length = true)
    (h : wpL P l.toArray (Grw w) (fun a' w' => Q .normal a' w') ds l [] fs) : (Code.region id l.toArray true).wp P Q ⟨fs.toArray, ds⟩ w :=
  wp_region_lax hm hB (by simpa using hD) h

/-- with a store at the region's end -/
theorem wp_laxT_list {id : Nat} {Q : Exit → Act → World → Prop} {w : World} {l : List Oper} (n : Nat) (hn : l.length = n + 1) (hm : P.follows .mixedOrders = true) (hB : Region.lexB .any l.toArray = true) (hD : dstsB l fs.length = true) (hW : waitsB l = true)
    (h : wpL P l.toArray (Grw w) (fun a' w' => wpList P l.toArray Q (l.drop n) a' w') ds (l.take n) [] fs) : (Code.region id l.toArray true).wp P Q ⟨fs.toArray, ds⟩ w :=
  wp_region_laxT n hn hm hB (by simpa using hD) hW h

theorem wpL_skip (hg : guardKnown ops o I = true) (hw : wantedL ops fs o = false) (k : wpL P ops C Q ds rest I (setL fs o.dst undef)) : wpL P ops C Q ds (o :: rest) I fs :=
  wpT_skip hg (wantedL_eq.trans hw) (by rw [mkA_put]; exact k)

theorem wpL_move {x : Operand} (v : Value) (ho : o.op = .move x) (hv : ev fs x = v) (hx : known I x = true) (hg : guardKnown ops o I = true) (hw : wantedL ops fs o = true) (k : wpL P ops C Q ds rest I (setL fs o.dst v)) : wpL P ops C Q ds (o :: rest) I fs :=
  wpT_move v ho ((mkA_eval x).trans hv) hx hg (wantedL_eq.trans hw) (by rw [mkA_put]; exact k)
theorem wpL_assign {x : Operand} (v : Value) (ho : o.op = .assign x) (hv : ev fs x = v) (hx : known I x = true) (hg : guardKnown ops o I = true) (hw : wantedL ops fs o = true) (k : wpL P ops C Q ds rest I (setL fs o.dst v)) : wpL P ops C Q ds (o :: rest) I fs :=
  wpT_assign v ho ((mkA_eval x).trans hv) hx hg (wantedL_eq.trans hw) (by rw [mkA_put]; exact k)
theorem wpL_run (v : Value) (hs : notSelect o = true) (hl : (o.op.operands.toList.all (known I)) = true) (hg : guardKnown ops o I = true) (hw : wantedL ops fs o = true)
    (hrun : ∀ w, C w → (execOp (ev fs) o).run P w = .ok (.value v) w) (k : wpL P ops C Q ds rest I (setL fs o.dst v)) : wpL P ops C Q ds (o :: rest) I fs :=
  wpT_run v hs hl hg (wantedL_eq.trans hw) (by rw [mkA_evalF]; exact hrun) (by rw [mkA_put]; exact k)
theorem wpL_runT {d : Tmp} (R : Ty) (hd : o.dst = some d) (hs : notSelect o = true) (hl : (o.op.operands.toList.all (known I)) = true) (hg : guardKnown ops o I = true) (hw : wantedL ops fs o = true)
    (hrun : ∀ w, C w → ∃ v w', (execOp (ev fs) o).run P w = .ok (.value v) w' ∧ R.holds v w' ∧ Grw w w') (k : wpL P ops C Q ds rest ((d, R) :: I) fs) : wpL P ops C Q ds (o :: rest) I fs :=
  wpT_runT R hd hs hl hg (wantedL_eq.trans hw) (by rw [mkA_evalF]; exact hrun) k
theorem wpL_call (v : Value) {f : FuncId} (args : Array Value) (hs : notSelect o = true) (hl : (o.op.operands.toList.all (known I)) = true) (hg : guardKnown ops o I = true) (hw : wantedL ops fs o = true)
    (hent : ∀ w, (execOp (ev fs) o).run P w = .ok (.enter f args) w) (hc : ∀ w, C w → Calls P f args w fun e w' => e = .returned v ∧ Grw w w') (k : wpL P ops C Q ds rest I (setL fs o.dst v)) : wpL P ops C Q ds (o :: rest) I fs :=
  wpT_call v args hs hl hg (wantedL_eq.trans hw) (by rw [mkA_evalF]; exact hent) hc (by rw [mkA_put]; exact k)
theorem wpL_callUV {t : Tmp} {R : Ty} (v : Value) {f : FuncId} (args : Value → Array Value) (hx : I.lookup t = some R) (hm : (Operand.tmp t) ∈ o.op.operands) (hs : notSelect o = true) (hl : (o.op.operands.toList.all fun x => known I x || isTmp t x) = true) (hg : guardKnown ops o I = true) (hw : wantedL ops fs o = true)
    (hent : ∀ (u : Value) w (ρ : Operand → Value), ρ (.tmp t) = u → (∀ x, known I x = true → ρ x = ev fs x) → (execOp ρ o).run P w = .ok (.enter f (args u)) w)
    (hc : ∀ (u : Value) w, C w → R.holds u w → Calls P f (args u) w fun e w' => e = .returned v ∧ Grw w w') (k : wpL P ops C Q ds rest I (setL fs o.dst v)) : wpL P ops C Q ds (o :: rest) I fs :=
  wpT_callUV v args hx hm hs hl hg (wantedL_eq.trans hw) (fun u w ρ h1 h2 => hent u w ρ h1 (fun x hx => (h2 x hx).trans (mkA_eval x))) hc (by rw [mkA_put]; exact k)

/-- run against a frame that is a variable, from what its operands are -/
theorem wpL_run1 {x : Operand} (vx v : Value) (hx : ev fs x = vx) (hs : notSelect o = true) (hl : (o.op.operands.toList.all (known I)) = true) (hg : guardKnown ops o I = true) (hw : wantedL ops fs o = true)
    (hrun : ∀ w (ρ : Operand → Value), C w → ρ x = vx → (∀ c, ρ (.const c) = c) → (execOp ρ o).run P w = .ok (.value v) w) (k : wpL P ops C Q ds rest I (setL fs o.dst v)) : wpL P ops C Q ds (o :: rest) I fs :=
  wpL_run v hs hl hg hw (fun w hC => hrun w _ hC hx fun _ => rfl) k
theorem wpL_run2 {x y : Operand} (vx vy v : Value) (hx : ev fs x = vx) (hy : ev fs y = vy) (hs : notSelect o = true) (hl : (o.op.operands.toList.all (known I)) = true) (hg : guardKnown ops o I = true) (hw : wantedL ops fs o = true)
    (hrun : ∀ w (ρ : Operand → Value), C w → ρ x = vx → ρ y = vy → (∀ c, ρ (.const c) = c) → (execOp ρ o).run P w = .ok (.value v) w) (k : wpL P ops C Q ds rest I (setL fs o.dst v)) : wpL P ops C Q ds (o :: rest) I fs :=
  wpL_run v hs hl hg hw (fun w hC => hrun w _ hC hx hy fun _ => rfl) k
/-- a call over known slots: its arguments by looking -/
theorem wpL_fn (v : Value) {f : FuncId} {xs : List Operand} {ts : Array TypeId} (args : List Value) (ho : o.op = .call { callee := .value (.func f), args := xs.toArray, argTypes := ts }) (ha : xs.map (ev fs) = args) (hk : xs.all (known I) = true) (hg : guardKnown ops o I = true) (hw : wantedL ops fs o = true)
    (hfn : ∀ (args : Array Value) w, (callFunc f args).run P w = .ok (.enter f args) w) (hc : ∀ w, C w → Calls P f args.toArray w fun e w' => e = .returned v ∧ Grw w w') (k : wpL P ops C Q ds rest I (setL fs o.dst v)) : wpL P ops C Q ds (o :: rest) I fs :=
  wpL_call v args.toArray (by simp [notSelect, ho]) (all_known ho hk) hg hw (fun w => by rw [enter_of ho _ rfl hfn, ha]) hc k
theorem wpL_fnUV {t : Tmp} {R : Ty} (v : Value) {f : FuncId} {ts : Array TypeId} (ho : o.op = .call { callee := .value (.func f), args := #[.tmp t], argTypes := ts }) (hx : I.lookup t = some R) (hg : guardKnown ops o I = true) (hw : wantedL ops fs o = true)
    (hfn : ∀ (args : Array Value) w, (callFunc f args).run P w = .ok (.enter f args) w) (hc : ∀ (u : Value) w, C w → R.holds u w → Calls P f #[u] w fun e w' => e = .returned v ∧ Grw w w') (k : wpL P ops C Q ds rest I (setL fs o.dst v)) : wpL P ops C Q ds (o :: rest) I fs :=
  wpL_callUV v (fun u => #[u]) hx (by rw [ho]; simp [Op.operands, Call.operands]) (by simp [notSelect, ho]) (by rw [ho]; simp [Op.operands, Call.operands, known, isTmp]) hg hw
    (fun u w ρ h1 h2 => by rw [enter_of (xs := [.tmp t]) ho ρ (h2 (.func f) rfl) hfn]; simp [h1]) hc k

theorem wpL_end (hk : ((I.map (·.1)).Nodup && (I.map (·.1)).all (· < fs.length)) = true) (h : ∀ w, C w → FinL Q ds I fs w) : wpL P ops C Q ds [] I fs :=
  wpT_end (by simpa [mkA] using hk) (fun w hw => finL_finQ I fs w (h w hw))
end lists

end
end Go.Own.Grn

end
section
namespace Go.Proofs.Ytepbdjgfaljbgaa
open Go.RowKit Go.Own Go.Sort
namespace Sto
open Go.StoM Byt
set_option maxRecDepth 10000 in
set_option maxHeartbeats 3200000 in
theorem byKey_any (a b : Ch) (ha : Fit a) (hb : Fit b) (W : World) : Calls Try.prog 61 #[chV a, chV b] W fun e w' => e = .returned (iS (keyCmp a.key b.key)) ∧ ∃ q os', w' = grow (W.drewN q) os' := by
  obtain ⟨c1, h1⟩ : ∃ c, c = chC a := ⟨_, rfl⟩
  obtain ⟨c2, h2⟩ : ∃ c, c = chC b := ⟨_, rfl⟩
  show Calls Try.prog _ #[.agg (chC a).toArray, .agg (chC b).toArray] W _
  rw [← h1, ← h2]
  have b1 := (Own.St.start W).boxV 74 c1
  obtain ⟨W1, hW1⟩ : ∃ w, w = W.alloc (.cells c1.toArray 74) := ⟨_, rfl⟩
  rw [← hW1] at b1
  have b2 := b1.boxV 74 c2
  obtain ⟨W2, hW2⟩ : ∃ w, w = W1.alloc (.cells c2.toArray 74) := ⟨_, rfl⟩
  rw [← hW2] at b2
  obtain ⟨p1, hp1⟩ : ∃ p, p = W.heap.size := ⟨_, rfl⟩
  obtain ⟨p2, hp2⟩ : ∃ p, p = W1.heap.size := ⟨_, rfl⟩
  rw [← hp1, ← hp2] at b2
  have HB : Hid (∀ n, ∀ j u, (a.key.sum.map byteV)[j]? = some u → (W2.drewN n).cell? ⟨p1, j, none⟩ = some u) := fun n j u hu => (b2.cellV 1 rfl j (by rw [h1]; exact chC_key ha.key j u (kC_sum j u hu))).1
  have HC : Hid (∀ n, ∀ j u, (b.key.sum.map byteV)[j]? = some u → (W2.drewN n).cell? ⟨p2, j, none⟩ = some u) := fun n j u hu => (b2.cellV 0 rfl j (by rw [h2]; exact chC_key hb.key j u (kC_sum j u hu))).1
  have d1 := (b2.cellV 1 rfl 32 (v := .int .u32 (a.key.n : Int)) (by rw [h1]; exact chC_key ha.key 32 _ (kC_n ha.key))).1
  have d2 := (b2.cellV 0 rfl 32 (v := .int .u32 (b.key.n : Int)) (by rw [h2]; exact chC_key hb.key 32 _ (kC_n hb.key))).1
  obtain ⟨x, hx⟩ : ∃ q, q = cmpB a.key.sum b.key.sum := ⟨_, rfl⟩
  obtain ⟨y, hy⟩ : ∃ q, q = cmpZ a.key.n b.key.n := ⟨_, rfl⟩
  obtain ⟨z, hz⟩ : ∃ q, q = orZ x y := ⟨_, rfl⟩
  have CB : Hid (∀ n, Calls Try.prog 66 #[.slice (some ⟨p1, 0, none⟩) 32 32, .slice (some ⟨p2, 0, none⟩) 32 32] (W2.drewN n) fun e w' => e = .returned (.int .i64 x) ∧ w' = W2.drewN n) := fun n => by rw [hx]; exact bytesCmp (HB.out n) (HC.out n) ha.key.sum hb.key.sum
  obtain ⟨n1, hn1⟩ : ∃ x, x = a.key.n := ⟨_, rfl⟩
  obtain ⟨n2, hn2⟩ : ∃ x, x = b.key.n := ⟨_, rfl⟩
  have CN : Hid (∀ wx, Calls Try.prog 67 #[.int .u32 (n1 : Int), .int .u32 (n2 : Int)] wx fun e w' => e = .returned (.int .i64 y) ∧ w' = wx) := fun wx => by rw [hy, hn1, hn2]; exact cmp32 _ _ wx
  have CO : Hid (∀ n, Calls Try.prog 64 #[.slice (some ⟨W2.heap.size, 0, none⟩) 2 2] ((W2.drewN n).alloc (.cells #[.int .i64 x, .int .i64 y] 3)) fun e w' => e = .returned (.int .i64 z) ∧ w' = (W2.drewN n).alloc (.cells #[.int .i64 x, .int .i64 y] 3)) := fun n => by
    rw [hz]
    have h := (Own.St.start (W2.drewN n)).boxV 3 [.int .i64 x, .int .i64 y]
    exact or_two x y _ _ (h.cellV 0 rfl 0 rfl).1 (h.cellV 0 rfl 1 rfl).1
  rw [← hn1] at d1
  rw [← hn2] at d2
  have e : keyCmp a.key b.key = z := by rw [hz, hx, hy]; rfl
  rw [e]
  have E1 := hW1.symm
  have E2 := hW2.symm
  have P1 := hp1.symm
  have P2 := hp2.symm
  have EG : Hid (∀ q (o : Obj), ∃ q' os', (W2.drewN q).alloc o = grow (W.drewN q') os') := fun q o => ⟨q, _, by
    rw [hW2, hW1, alloc_eq_grow, alloc_eq_grow, alloc_eq_grow]
    show grow (grow (grow (W.drewN q) _) _) _ = _
    rw [grow_grow, grow_grow]⟩
  clear h1 h2 b1 b2 hW1 hW2 hp1 hp2 HB HC hx hy hz e ha hb hn1 hn2
  go_enter Try.func61, Try.ntmps61
  go_wp2_with (fail)
  go_region_law (first
    | (go_simp; go_at_call 66; refine (CB.out 1).mono ?_; rintro e w' ⟨rfl, rfl⟩)
    | (go_simp; go_at_call 67; refine (CN.out _).mono ?_; rintro e w' ⟨rfl, rfl⟩)
    | (go_simp; go_at_call 64; refine (CO.out 1).mono ?_; rintro e w' ⟨rfl, rfl⟩))
  all_goals
    go_simp
    go_wp2
    go_ret
    exact ⟨rfl, EG.out _ _⟩
def tyTwo (x y : Int) : Ty where
  holds v w := ∃ g, v = .slice (some ⟨g, 0, none⟩) 2 2 ∧ w.cell? ⟨g, 0, none⟩ = some (iS x) ∧ w.cell? ⟨g, 1, none⟩ = some (iS y)
  keep h g := by
    obtain ⟨b, h1, h2, h3⟩ := h
    exact ⟨b, h1, cellLater' h2 g, cellLater' h3 g⟩
theorem two_ints {o : Oper} {x y : Operand} (ho : o.op = .buildSlice 123 2 #[(0, x), (1, y)]) (a b : Int) (ρ : Operand → Value) (h0 : ρ x = iS a) (h1 : ρ y = iS b) (w : World) : ∃ v w', (execOp ρ o).run Try.prog w = .ok (.value v) w' ∧ (tyTwo a b).holds v w' ∧ Grn.Grw w w' := by
  have h := (Own.St.start w).boxV 3 [iS a, iS b]
  refine ⟨.slice (some ⟨w.heap.size, 0, none⟩) 2 2, w.alloc (.cells #[.int .i64 a, .int .i64 b] 3), ?_, ⟨_, rfl, (h.cellV 0 rfl 0 rfl).1, (h.cellV 0 rfl 1 rfl).1⟩, ⟨((Own.St.start w).alloc _).below, Nat.le_refl _⟩⟩
  simp [execOp, ho, h0, h1, go_sem]
theorem fld_pl {o : Oper} {X : Operand} (ho : o.op = .fieldAddr 74 X 1) {p : Nat} (ρ : Operand → Value) (w : World) (h0 : ρ X = .pointer (some ⟨p, 0, none⟩)) : (execOp ρ o).run Try.prog w = .ok (.value (.pointer (some ⟨p, 33, none⟩))) w := by
  simp [execOp, ho, h0, go_sem, add_of]
theorem fld_pg {o : Oper} {X : Operand} (ho : o.op = .fieldAddr 72 X 1) {p : Nat} (ρ : Operand → Value) (w : World) (h0 : ρ X = .pointer (some ⟨p, 33, none⟩)) : (execOp ρ o).run Try.prog w = .ok (.value (.pointer (some ⟨p, 34, none⟩))) w := by
  simp [execOp, ho, h0, go_sem, add_of]
theorem ld_i {o : Oper} {X : Operand} (ho : o.op = .load 3 X) {a : Addr} {v : Value} (ρ : Operand → Value) {w : World} (hc : w.cell? a = some v) (h0 : ρ X = .pointer (some a)) : (execOp ρ o).run Try.prog w = .ok (.value v) w := by
  simp [execOp, ho, h0, go_sem, hc]
set_option maxRecDepth 10000 in
set_option maxHeartbeats 3200000 in
theorem byPage_any (a b : Ch) (ha : Fit a) (hb : Fit b) (W : World) : Calls Try.prog 59 #[chV a, chV b] W fun e w' => e = .returned (iS (pageCmp a b)) ∧ ∃ q os', w' = grow (W.drewN q) os' := by
  obtain ⟨c1, h1⟩ : ∃ c, c = chC a := ⟨_, rfl⟩
  obtain ⟨c2, h2⟩ : ∃ c, c = chC b := ⟨_, rfl⟩
  show Calls Try.prog _ #[.agg (chC a).toArray, .agg (chC b).toArray] W _
  rw [← h1, ← h2]
  have l1 : c1.length = 37 := by rw [h1]; exact chC_len ha.key
  have l2 : c2.length = 37 := by rw [h2]; exact chC_len hb.key
  have b1 := (Own.St.start W).boxV 74 c1
  obtain ⟨W1, hW1⟩ : ∃ w, w = W.alloc (.cells c1.toArray 74) := ⟨_, rfl⟩
  rw [← hW1] at b1
  have b2 := b1.boxV 74 c2
  obtain ⟨W2, hW2⟩ : ∃ w, w = W1.alloc (.cells c2.toArray 74) := ⟨_, rfl⟩
  rw [← hW2] at b2
  obtain ⟨p1, hp1⟩ : ∃ p, p = W.heap.size := ⟨_, rfl⟩
  obtain ⟨p2, hp2⟩ : ∃ p, p = W1.heap.size := ⟨_, rfl⟩
  rw [← hp1, ← hp2] at b2
  obtain ⟨n1, hn1⟩ : ∃ x, x = a.place.page := ⟨_, rfl⟩
  obtain ⟨n2, hn2⟩ : ∃ x, x = b.place.page := ⟨_, rfl⟩
  have D1 : Hid (∀ wx, Grn.Grw W2 wx → wx.cell? ⟨p1, 34, none⟩ = some (iS n1)) := fun wx h => cellLater' (b2.cellV 1 rfl 34 (v := iS n1) (by rw [h1, hn1]; exact chC_rest ha.key 1)).1 h.below
  have D2 : Hid (∀ wx, Grn.Grw W2 wx → wx.cell? ⟨p2, 34, none⟩ = some (iS n2)) := fun wx h => cellLater' (b2.cellV 0 rfl 34 (v := iS n2) (by rw [h2, hn2]; exact chC_rest hb.key 1)).1 h.below
  have R1 : Hid (∀ wx, Grn.Grw W2 wx → wx.rangeAt p1 0 c1) := fun wx h j v hv => by rw [Nat.zero_add]; exact cellLater' (b2.cellV 1 rfl j hv).1 h.below
  have R2 : Hid (∀ wx, Grn.Grw W2 wx → wx.rangeAt p2 0 c2) := fun wx h j v hv => by rw [Nat.zero_add]; exact cellLater' (b2.cellV 0 rfl j hv).1 h.below
  obtain ⟨x, hx⟩ : ∃ q, q = cmpZ a.place.page b.place.page := ⟨_, rfl⟩
  obtain ⟨y, hy⟩ : ∃ q, q = keyCmp a.key b.key := ⟨_, rfl⟩
  obtain ⟨z, hz⟩ : ∃ q, q = orZ x y := ⟨_, rfl⟩
  have CN : Hid (∀ wx, Calls Try.prog 65 #[iS n1, iS n2] wx fun e w' => e = .returned (iS x) ∧ Grn.Grw wx w') := fun wx => by rw [hx, hn1, hn2]; exact (cmpI _ _ wx).mono fun _ _ h => ⟨h.1, h.2 ▸ Grn.Grw.refl _⟩
  have CK : Hid (∀ wx, Calls Try.prog 61 #[.agg c1.toArray, .agg c2.toArray] wx fun e w' => e = .returned (iS y) ∧ Grn.Grw wx w') := fun wx => by
    rw [hy, h1, h2]
    refine (byKey_any a b ha hb wx).mono ?_
    rintro e w' ⟨rfl, q, os, rfl⟩
    exact ⟨rfl, Grn.Grw.of⟩
  have CO : Hid (∀ (u : Value) (wx : World), (tyTwo x y).holds u wx → Calls Try.prog 64 #[u] wx fun e w' => e = .returned (iS z) ∧ Grn.Grw wx w') := fun u wx h => by
    obtain ⟨g, rfl, g1, g2⟩ := h
    rw [hz]
    exact (or_two x y wx g g1 g2).mono fun _ _ h => ⟨h.1, h.2 ▸ Grn.Grw.refl _⟩
  have e : pageCmp a b = z := by rw [hz, hx, hy]; rfl
  rw [e]
  have E1 := hW1.symm
  have E2 := hW2.symm
  have P1 := hp1.symm
  have P2 := hp2.symm
  have L1 := Lib.hid l1
  have L2 := Lib.hid l2
  have EG : Hid (∀ wx : World, Grn.Grw W2 wx → ∃ q' os', wx = grow (W.drewN q') os') := by
    intro wx h
    refine Grn.Grw.is (Grn.Grw.trans ?_ h)
    rw [hW2, hW1]
    exact ⟨(((Own.St.start W).alloc _).alloc _).below, Nat.le_refl _⟩
  clear h1 h2 b1 b2 hW1 hW2 hp1 hp2 hx hy hz e ha hb hn1 hn2 l1 l2
  go_enter Try.func59, Try.ntmps59
  go_wp2_with (fail)
  refine Grn.wp_lax_list (by kernel_rfl) (by kernel_rfl) (by kernel_rfl) ?_
  refine Grn.wpL_run1 (x := .tmp 2) (ptr p1) (.pointer (some ⟨p1, 33, none⟩)) (by kernel_rfl) (by kernel_rfl) (by kernel_rfl) (by kernel_rfl) (by kernel_rfl) (fun wx ρ hwx h0 hc => fld_pl rfl ρ wx h0) ?_
  refine Grn.wpL_run1 (x := .tmp 5) (.pointer (some ⟨p1, 33, none⟩)) (.pointer (some ⟨p1, 34, none⟩)) (by kernel_rfl) (by kernel_rfl) (by kernel_rfl) (by kernel_rfl) (by kernel_rfl) (fun wx ρ hwx h0 hc => fld_pg rfl ρ wx h0) ?_
  refine Grn.wpL_run1 (x := .tmp 6) (.pointer (some ⟨p1, 34, none⟩)) (iS n1) (by kernel_rfl) (by kernel_rfl) (by kernel_rfl) (by kernel_rfl) (by kernel_rfl) (fun wx ρ hwx h0 hc => ld_i rfl ρ (D1.out wx hwx) h0) ?_
  refine Grn.wpL_run1 (x := .tmp 3) (ptr p2) (.pointer (some ⟨p2, 33, none⟩)) (by kernel_rfl) (by kernel_rfl) (by kernel_rfl) (by kernel_rfl) (by kernel_rfl) (fun wx ρ hwx h0 hc => fld_pl rfl ρ wx h0) ?_
  refine Grn.wpL_run1 (x := .tmp 8) (.pointer (some ⟨p2, 33, none⟩)) (.pointer (some ⟨p2, 34, none⟩)) (by kernel_rfl) (by kernel_rfl) (by kernel_rfl) (by kernel_rfl) (by kernel_rfl) (fun wx ρ hwx h0 hc => fld_pg rfl ρ wx h0) ?_
  refine Grn.wpL_run1 (x := .tmp 9) (.pointer (some ⟨p2, 34, none⟩)) (iS n2) (by kernel_rfl) (by kernel_rfl) (by kernel_rfl) (by kernel_rfl) (by kernel_rfl) (fun wx ρ hwx h0 hc => ld_i rfl ρ (D2.out wx hwx) h0) ?_
  refine Grn.wpL_fn (iS x) [iS n1, iS n2] rfl (by kernel_rfl) (by kernel_rfl) (by kernel_rfl) (by kernel_rfl) (fun _ _ => by simp [go_sem]) (fun wx hwx => CN.out wx) ?_
  refine Grn.wpL_run1 (x := .tmp 2) (ptr p1) (.agg c1.toArray) (by kernel_rfl) (by kernel_rfl) (by kernel_rfl) (by kernel_rfl) (by kernel_rfl) (fun wx ρ hwx h0 hc => load_ch c1 L1.out rfl ρ (R1.out wx hwx) h0) ?_
  refine Grn.wpL_run1 (x := .tmp 3) (ptr p2) (.agg c2.toArray) (by kernel_rfl) (by kernel_rfl) (by kernel_rfl) (by kernel_rfl) (by kernel_rfl) (fun wx ρ hwx h0 hc => load_ch c2 L2.out rfl ρ (R2.out wx hwx) h0) ?_
  refine Grn.wpL_fn (iS y) [.agg c1.toArray, .agg c2.toArray] rfl (by kernel_rfl) (by kernel_rfl) (by kernel_rfl) (by kernel_rfl) (fun _ _ => by simp [go_sem]) (fun wx hwx => CK.out wx) ?_
  refine Grn.wpL_runT (tyTwo x y) rfl (by kernel_rfl) (by kernel_rfl) (by kernel_rfl) (by kernel_rfl) (fun wx hwx => two_ints rfl x y _ rfl rfl wx) ?_
  refine Grn.wpL_fnUV (iS z) rfl rfl (by kernel_rfl) (by kernel_rfl) (fun _ _ => by simp [go_sem]) (fun u wx hwx h => CO.out u wx h) ?_
  refine Grn.wpL_assign (iS z) rfl (by kernel_rfl) (by kernel_rfl) (by kernel_rfl) (by kernel_rfl) ?_
  refine Grn.wpL_end (by kernel_rfl) (fun w1 hw1 v15 h15 => ?_)
  clear h15
  simp only [FinL, setL, List.set_cons_zero, List.set_cons_succ]
  have HW := Lib.hid hw1
  clear hw1
  go_wp2
  go_ret
  exact ⟨rfl, EG.out _ HW.out⟩
end Sto
end Go.Proofs.Ytepbdjgfaljbgaa

end
section
namespace Go.Proofs.Ytepbdjgfaljbgaa
open Go.RowKit Go.Own Go.Sort Go.Shelf
namespace Sto
open Go.StoM Byt
def sortCh_ren : Go.Shelf.Ren := ⟨fun | 6 => 63 | 15 => 69 | 14 => 68 | 28 => 81 | 29 => 82 | 20 => 73 | 21 => 74 | 22 => 75 | 23 => 76 | 24 => 77 | 25 => 78 | 26 => 79 | 27 => 80 | 46 => 83 | 47 => 84 | 48 => 85 | 49 => 86 | 50 => 87 | 57 => 88 | n => n, fun | 22 => 64 | 24 => 74 | 25 => 113 | 3 => 3 | 39 => 122 | 0 => 0 | 53 => 32 | 55 => 27 | 4 => 4 | 46 => 128 | 45 => 127 | 50 => 104 | 5 => 5 | 9 => 9 | 66 => 135 | 70 => 138 | 76 => 140 | 77 => 141 | n => n, fun | n => n⟩
theorem sortCh : Go.Proofs.SlLaysF0.n6 Try.prog sortCh_ren where
  mixed := by kernel_rfl
  f6 := ⟨ "slices.SortFunc[[]pumice/api.Chunk,pumice/api.Chunk]", by decide, Try.func63.trans (congrArg some (by kernel_rfl))⟩
  f14 := ⟨ "slices.pdqsortCmpFunc[pumice/api.Chunk]", by decide, Try.func68.trans (congrArg some (by kernel_rfl))⟩
  f15 := Try.func69.trans (congrArg some (by kernel_rfl))
  f20 := ⟨ "slices.insertionSortCmpFunc[pumice/api.Chunk]", by decide, Try.func73.trans (congrArg some (by kernel_rfl))⟩
  f21 := ⟨ "slices.heapSortCmpFunc[pumice/api.Chunk]", by decide, Try.func74.trans (congrArg some (by kernel_rfl))⟩
  f22 := ⟨ "slices.breakPatternsCmpFunc[pumice/api.Chunk]", by decide, Try.func75.trans (congrArg some (by kernel_rfl))⟩
  f23 := ⟨ "slices.choosePivotCmpFunc[pumice/api.Chunk]", by decide, Try.func76.trans (congrArg some (by kernel_rfl))⟩
  f24 := ⟨ "slices.reverseRangeCmpFunc[pumice/api.Chunk]", by decide, Try.func77.trans (congrArg some (by kernel_rfl))⟩
  f25 := ⟨ "slices.partialInsertionSortCmpFunc[pumice/api.Chunk]", by decide, Try.func78.trans (congrArg some (by kernel_rfl))⟩
  f26 := ⟨ "slices.partitionEqualCmpFunc[pumice/api.Chunk]", by decide, Try.func79.trans (congrArg some (by kernel_rfl))⟩
  f27 := ⟨ "slices.partitionCmpFunc[pumice/api.Chunk]", by decide, Try.func80.trans (congrArg some (by kernel_rfl))⟩
  f28 := Try.func81.trans (congrArg some (by kernel_rfl))
  f29 := Try.func82.trans (congrArg some (by kernel_rfl))
  f46 := ⟨ "slices.siftDownCmpFunc[pumice/api.Chunk]", by decide, Try.func83.trans (congrArg some (by kernel_rfl))⟩
  f47 := Try.func84.trans (congrArg some (by kernel_rfl))
  f48 := Try.func85.trans (congrArg some (by kernel_rfl))
  f49 := ⟨ "slices.medianAdjacentCmpFunc[pumice/api.Chunk]", by decide, Try.func86.trans (congrArg some (by kernel_rfl))⟩
  f50 := ⟨ "slices.medianCmpFunc[pumice/api.Chunk]", by decide, Try.func87.trans (congrArg some (by kernel_rfl))⟩
  f57 := ⟨ "slices.order2CmpFunc[pumice/api.Chunk]", by decide, Try.func88.trans (congrArg some (by kernel_rfl))⟩
  t0 := Try.underlying0
  a0 := Try.isAgg0
  z0 := Try.sizeOf0
  v0 := Try.zeroValue0
  t3 := Try.underlying3
  a3 := Try.isAgg3
  z3 := Try.sizeOf3
  v3 := Try.zeroValue3
  t4 := Try.underlying4
  a4 := Try.isAgg4
  z4 := Try.sizeOf4
  v4 := Try.zeroValue4
  t5 := Try.underlying5
  a5 := Try.isAgg5
  z5 := Try.sizeOf5
  v5 := Try.zeroValue5
  t9 := Try.underlying9
  a9 := Try.isAgg9
  z9 := Try.sizeOf9
  v9 := Try.zeroValue9
  t22 := Try.underlying64
  a22 := Try.isAgg64
  z22 := Try.sizeOf64
  v22 := Try.zeroValue64
  t25 := Try.underlying113
  a25 := Try.isAgg113
  z25 := Try.sizeOf113
  v25 := Try.zeroValue113
  t39 := Try.underlying122
  a39 := Try.isAgg122
  z39 := Try.sizeOf122
  v39 := Try.zeroValue122
  t45 := Try.underlying127
  a45 := Try.isAgg127
  z45 := Try.sizeOf127
  v45 := Try.zeroValue127
  t46 := Try.underlying128
  a46 := Try.isAgg128
  z46 := Try.sizeOf128
  v46 := Try.zeroValue128
  t50 := Try.underlying104
  a50 := Try.isAgg104
  z50 := Try.sizeOf104
  v50 := Try.zeroValue104
  t53 := Try.underlying32
  a53 := Try.isAgg32
  z53 := Try.sizeOf32
  v53 := Try.zeroValue32
  t55 := Try.underlying27
  a55 := Try.isAgg27
  z55 := Try.sizeOf27
  v55 := Try.zeroValue27
  t66 := Try.underlying135
  a66 := Try.isAgg135
  z66 := Try.sizeOf135
  v66 := Try.zeroValue135
  t70 := Try.underlying138
  a70 := Try.isAgg138
  z70 := Try.sizeOf138
  v70 := Try.zeroValue138
  t76 := Try.underlying140
  a76 := Try.isAgg140
  z76 := Try.sizeOf140
  v76 := Try.zeroValue140
  t77 := Try.underlying141
  a77 := Try.isAgg141
  z77 := Try.sizeOf141
  v77 := Try.zeroValue141

abbrev FC := { c : Ch // Fit c }
instance : Inhabited FC := ⟨⟨zeroCh, zero_fit⟩⟩
def encF (x : FC) : List Value := chC x.1
theorem encF_len (x : FC) : (encF x).length = 37 := chC_len x.2.key
theorem flatK_list (d : Array FC) : (flatK encF 37 d).toList = d.toList.flatMap encF := by
  have hl : ∀ a ∈ d.toList, (encF a).length = 37 := fun a _ => encF_len a
  apply List.ext_getElem?
  intro i
  by_cases hi : i < d.size * 37
  · have hk : i / 37 < d.size := Nat.div_lt_of_lt_mul (by rw [Nat.mul_comm]; exact hi)
    have hm : i % 37 < 37 := Nat.mod_lt _ (by decide)
    have h1 := flat_at encF 37 d.toList hl (i / 37) (d[i / 37]) (by rw [Array.getElem?_toList, Array.getElem?_eq_getElem hk]) (i % 37) hm
    rw [Nat.mul_comm, Nat.div_add_mod] at h1
    rw [h1, Array.getElem?_toList, Array.getElem?_eq_getElem (by simpa using hi)]
    have h2 := get_flatK encF 37 d i hi
    rw [getElem!_pos _ i (by simpa using hi), getElem!_pos d (i / 37) hk, getElem!_pos _ (i % 37) (by rw [encF_len]; exact hm)] at h2
    rw [h2, List.getElem?_eq_getElem]
  · rw [List.getElem?_eq_none (by simpa using Nat.le_of_not_lt hi), List.getElem?_eq_none]
    rw [flat_length encF 37 d.toList hl, Array.length_toList]
    omega
theorem setMany_all {F : Array Value} {vs : List Value} (h : vs.length = F.size) : setMany F 0 vs = vs.toArray := by
  refine ext_get! (by simp [h]) fun t ht => ?_
  rw [size_setMany] at ht
  rw [get_setMany _ _ _ _ ht, if_pos ⟨Nat.zero_le _, by omega⟩, Nat.sub_zero]
  simp
theorem St.grow {B : Nat} {w0 w : World} {Ps : List Asn} (H : Own.St B w0 w Ps) (os : Array Obj) : Own.St B w0 (Sort.grow w os) Ps :=
  H.quiet (T := fun _ => False) ⟨rfl, rfl, rfl, by simp [Sort.grow], fun k hk _ => by
    show (w.heap ++ os)[k]? = _
    rw [Array.getElem?_append_left hk], fun _ h => h.elim⟩
theorem flat_fit (l : List Ch) (hf : ∀ c ∈ l, Fit c) : ∃ d : Array FC, d.toList.map (·.1) = l ∧ d.size = l.length ∧ d.toList.flatMap encF = l.flatMap chC := by
  refine ⟨(l.pmap (fun c h => (⟨c, h⟩ : FC)) hf).toArray, ?_, by simp, ?_⟩
  · simp [List.map_pmap]
  · rw [List.toList_toArray, List.flatMap_def, List.flatMap_def, List.map_pmap]
    congr 1
    simp [encF]
theorem flat_map (d : Array FC) : d.toList.flatMap encF = (d.toList.map (·.1)).flatMap chC := by
  rw [List.flatMap_def, List.flatMap_def, List.map_map]
  rfl
section
variable {B : Nat} {w0 w : World} {Ps : List Asn}
set_option maxHeartbeats 1000000 in
/-- slices.SortFunc of some chunks, by an order that lays blocks of its own -/
theorem sort_any (g : Nat) (cf : Ch → Ch → Int) (hO : SWO (ltOf fun x y : FC => cf x.1 y.1)) (hc : ∀ a b : Ch, Fit a → Fit b → ∀ W, Calls Try.prog g #[chV a, chV b] W fun e w' => e = .returned (iS (cf a b)) ∧ ∃ q os', w' = Sort.grow (W.drewN q) os')
    (eg : ∀ args w, (callFunc g args).run Try.prog w = .ok (.enter g args) w) {ao : Option Addr} {n cap : Nat} {l : List Ch} (hf : ∀ c ∈ l, Fit c) (hl : l.length = n) (hn : n ≤ 1000000) (H : Own.St B w0 w (ARow 74 37 (.slice ao n cap) n (l.flatMap chC) :: Ps)) :
    Calls Try.prog 63 #[.slice ao n cap, .func (.func g) #[] #[]] w fun e w' => e = .returned (.tuple #[]) ∧ ∃ m : List Ch, m.Perm l ∧ m.Pairwise (fun a b => ¬ cf b a < 0) ∧ Own.St B w0 w' (ARow 74 37 (.slice ao n cap) n (m.flatMap chC) :: Ps) := by
  cases ao with
  | none =>
    have hn0 := ((H.rowLen 0 rfl).2.2.2 rfl).1
    subst hn0
    have hl0 := List.eq_nil_of_length_eq_zero hl
    subst hl0
    refine (AnyF.slices_SortFunc_none sortCh none cap (.func (.func g) #[] #[]) w).mono ?_
    rintro e w' ⟨rfl, rfl⟩
    exact ⟨rfl, [], List.Perm.refl _, List.Pairwise.nil, H⟩
  | some a =>
    obtain ⟨S, hS, _⟩ := H.at 0 rfl
    obtain ⟨ao', cap', hv, _, _, _, ha⟩ := Row.form hS
    simp only [Value.slice.injEq, true_and] at hv
    obtain ⟨rfl, rfl⟩ := hv
    obtain ⟨b, rfl, hSb⟩ := ha a rfl
    have hb : b < w.heap.size := Row.lt hS b hSb
    obtain ⟨d, hd1, hd2, hd3⟩ := flat_fit l hf
    have hfl : (flatK encF 37 d).toList = l.flatMap chC := by rw [flatK_list, hd3]
    have hlen : (l.flatMap chC).length = n * 37 := (H.rowLen 0 rfl).1
    have hH : HoldsK encF 37 w b 0 d := by
      intro j hj
      rw [size_flatK, hd2, hl] at hj
      obtain ⟨h1, h2⟩ := H.rowRange 0 rfl j hj
      rw [Nat.zero_add]
      refine ⟨?_, h2⟩
      rw [h1, ← hfl, Array.getElem?_toList]
      have hj2 : j < (flatK encF 37 d).size := by rw [size_flatK, hd2, hl]; exact hj
      rw [Array.getElem?_eq_getElem hj2, getElem!_pos _ j hj2]
      rfl
    have hcmp : CmpLays Try.prog g #[] encF 37 (fun x y : FC => cf x.1 y.1) b 0 d.size w := fun _ _ _ _ x y => hc x.1 y.1 x.2 y.2 _
    have hcon := AnyQ.slices_SortFunc sortCh 37 (fun w => by kernel_rfl) (fun w => by kernel_rfl) encF encF_len (fun x => chC_one x.1) (fun x y : FC => cf x.1 y.1) hO g #[] b 0 cap d w eg hcmp hH hb (by omega)
    rw [hd2, hl] at hcon
    refine Calls.mono hcon ?_
    rintro e w' ⟨rfl, d', m, os, ⟨hp1, _, hp3⟩, hs, rfl⟩
    have hds : d'.size = n := by rw [hp1, hd2, hl]
    have e1 : (d'.extract 0 n).toList = d'.toList := by rw [← hds, Array.extract_size]
    have e2 : (d.extract 0 n).toList = d.toList := by rw [← hl, ← hd2, Array.extract_size]
    rw [e1, e2] at hp3
    refine ⟨rfl, d'.toList.map (·.1), by rw [← hd1]; exact hp3.map _, ?_, ?_⟩
    · rw [List.pairwise_map, List.pairwise_iff_getElem]
      intro i j hi hj hij
      rw [Array.length_toList] at hi hj
      have := hs i j (Nat.zero_le _) hij (by omega)
      rw [getElem!_pos _ i hi, getElem!_pos _ j hj] at this
      unfold ltOf at this
      simpa using this
    · unfold sortWorldK
      refine St.grow ?_ os
      have hA : HoldsK encF 37 (Sort.ahead w m) b 0 d := hH
      have e3 : putRowK encF 37 (Sort.ahead w m) b 0 d' = (Sort.ahead w m).setCells b 0 (d'.toList.flatMap encF) := by
        have h1 := setCells_putRow (Sort.ahead w m) b 0 (d'.toList.flatMap encF) 0 (flatK encF 37 d) (by rw [← flatK_list, Array.length_toList, size_flatK, size_flatK, hp1, Nat.zero_add]; exact Nat.le_refl _)
        have h2 : putRow id (Sort.ahead w m) b 0 (flatK encF 37 d) = Sort.ahead w m := putRow_self id _ b 0 _ hA
        rw [h2, Nat.zero_add, setMany_all (by rw [← flatK_list, Array.length_toList, size_flatK, size_flatK, hp1])] at h1
        rw [h1]
        unfold putRowK
        congr 1
        rw [← flatK_list]
      rw [e3]
      have hlen2 : (d'.toList.flatMap encF).length = n * 37 := by rw [← flatK_list, Array.length_toList, size_flatK, hds]
      have h := St.rowCells 0 (d'.toList.flatMap encF) 0 (w.drewN m) _ _ (H.drewN m) rfl (by omega)
      rw [List.set_cons_zero, List.take_zero, List.nil_append, Nat.zero_add, List.drop_of_length_le (by omega), List.append_nil, flat_map] at h
      rw [flat_map]
      exact h
end
/-! ### the two orders -/
theorem cmpB_neg {a b : List UInt8} : cmpB a b < 0 ↔ ltB a b = true := by
  unfold cmpB
  cases h : ltB a b
  · cases ltB b a <;> simp
  · simp
theorem cmpB_zero {a b : List UInt8} : cmpB a b = 0 ↔ a = b := by
  unfold cmpB
  constructor
  · intro h
    rcases ltB_total a b with h1 | h1 | h1
    · rw [if_pos h1] at h; cases h
    · exact h1
    · by_cases h2 : ltB a b = true
      · rw [if_pos h2] at h; cases h
      · rw [if_neg h2, if_pos h1] at h; cases h
  · rintro rfl
    simp [ltB_irrefl]
theorem cmpZ_neg {a b : Int} : cmpZ a b < 0 ↔ a < b := by
  unfold cmpZ
  split
  · simp [*]
  · split
    · simp [*]
    · simp [*]
theorem cmpZ_zero {a b : Int} : cmpZ a b = 0 ↔ a = b := by
  unfold cmpZ
  split
  · constructor
    · intro h; cases h
    · omega
  · split
    · constructor
      · intro h; cases h
      · omega
    · constructor
      · omega
      · intro _; rfl
theorem orZ_neg {a b : Int} : orZ a b < 0 ↔ a < 0 ∨ (a = 0 ∧ b < 0) := by
  unfold orZ
  split <;> omega
theorem keyCmp_neg {a b : Ky} : keyCmp a b < 0 ↔ lessK a b = true := by
  unfold keyCmp lessK
  rw [orZ_neg, cmpB_neg, cmpB_zero, cmpZ_neg]
  simp only [Bool.or_eq_true, Bool.and_eq_true, decide_eq_true_eq, Int.ofNat_lt]
theorem pageCmp_neg {a b : Ch} : pageCmp a b < 0 ↔ lessP a b = true := by
  unfold pageCmp lessP
  rw [orZ_neg, keyCmp_neg, cmpZ_neg, cmpZ_zero]
  simp only [Bool.or_eq_true, Bool.and_eq_true, decide_eq_true_eq]
theorem lessP_total (a b : Ch) : lessP a b = true ∨ a.key = b.key ∨ lessP b a = true := by
  simp only [lessP, Bool.or_eq_true, Bool.and_eq_true, decide_eq_true_eq]
  rcases Int.lt_trichotomy a.place.page b.place.page with h | h | h
  · exact .inl (.inl h)
  · rcases less_total a.key b.key with h2 | h2 | h2
    · exact .inl (.inr ⟨h, h2⟩)
    · exact .inr (.inl h2)
    · exact .inr (.inr (.inr ⟨h.symm, h2⟩))
  · exact .inr (.inr (.inl h))
theorem swoK : SWO (ltOf fun x y : FC => keyCmp x.1.key y.1.key) where
  irrefl x := by unfold ltOf; simp only [decide_eq_false_iff_not]; rw [keyCmp_neg, less_irrefl]; simp
  trans x y z h1 h2 := by
    unfold ltOf at *
    simp only [decide_eq_true_eq] at *
    rw [keyCmp_neg] at *
    exact less_trans h1 h2
  ntrans x y z h1 h2 := by
    unfold ltOf at *
    simp only [decide_eq_false_iff_not] at *
    rw [keyCmp_neg] at *
    intro h3
    rcases less_total x.1.key y.1.key with h | h | h
    · exact h1 h
    · rw [h] at h3; exact h2 h3
    · exact h2 (less_trans h h3)
theorem swoP : SWO (ltOf fun x y : FC => pageCmp x.1 y.1) where
  irrefl x := by unfold ltOf; simp only [decide_eq_false_iff_not]; rw [pageCmp_neg, lessP_irrefl]; simp
  trans x y z h1 h2 := by
    unfold ltOf at *
    simp only [decide_eq_true_eq] at *
    rw [pageCmp_neg] at *
    exact lessP_trans _ _ _ h1 h2
  ntrans x y z h1 h2 := by
    unfold ltOf at *
    simp only [decide_eq_false_iff_not] at *
    rw [pageCmp_neg] at *
    intro h3
    simp only [lessP, Bool.or_eq_true, Bool.and_eq_true, decide_eq_true_eq] at h1 h2 h3
    have a1 : ¬ x.1.place.page < y.1.place.page := fun h => h1 (.inl h)
    have a2 : ¬ y.1.place.page < z.1.place.page := fun h => h2 (.inl h)
    rcases h3 with h3 | ⟨h3, h4⟩
    · omega
    · have e1 : x.1.place.page = y.1.place.page := by omega
      have e2 : y.1.place.page = z.1.place.page := by omega
      rcases less_total x.1.key y.1.key with h | h | h
      · exact h1 (.inr ⟨e1, h⟩)
      · rw [h] at h4
        exact h2 (.inr ⟨e2, h4⟩)
      · exact h2 (.inr ⟨e2, less_trans h h4⟩)
end Sto
end Go.Proofs.Ytepbdjgfaljbgaa

end
section
namespace Go.Proofs.Ytepbdjgfaljbgaa
open Go.RowKit Go.Own Go.Maps
namespace Sto
open Go.StoM Byt
/-- a map that is ranged over, and its iterator -/
def ARng (b r : Nat) (l : List Ch) (left : Lit → Bool) (cnt : Nat) : Asn where
  holds S w := (∃ (D : DataW Value) (n : Nat), w.ranges Try.prog 36 rawV b r n D left cnt ∧ Reads D l) ∧ ∀ k, S k ↔ (k = b ∨ k = r)
  keep h gs hd := by
    obtain ⟨⟨D, n, hr, h1⟩, h5⟩ := h
    have l1 := hr.owns.lt
    have l2 := hr.lt
    obtain ⟨es, clock, since, seen, c0, hb, F, hs, hD, hi, rest⟩ := hr
    exact ⟨⟨D, n, ⟨es, clock, since, seen, c0, (gs.block _ l1 (hd _ ((h5 _).2 (.inl rfl)))).trans hb, F, hs, hD, (gs.block _ l2 (hd _ ((h5 _).2 (.inr rfl)))).trans hi, rest⟩, h1⟩, h5⟩
  lt h k hk := by
    obtain ⟨⟨D, n, hr, h1⟩, h5⟩ := h
    rcases (h5 k).1 hk with rfl | rfl
    · exact hr.owns.lt
    · exact hr.lt
section
variable {B : Nat} {w0 w : World} {Ps : List Asn} {b r : Nat} {l : List Ch} {left : Lit → Bool} {cnt : Nat}
theorem rng_start (H : Own.St B w0 w Ps) (i : Nat) (hi : Ps[i]? = some (ACh b l)) : ∃ w' left cnt, (Instr.range 108 (.map (some b))).run Try.prog w = .ok (.pointer (some ⟨w.heap.size, 0, none⟩)) w' ∧ Own.St B w0 w' (Ps.set i (ARng b w.heap.size l left cnt)) ∧ ∀ c ∈ l, left (kLit c.key) = true := by
  obtain ⟨S, ⟨⟨D, hm, hr⟩, h5⟩, _, put⟩ := H.at i hi
  obtain ⟨w', hrun, r1, g, hsz⟩ := hm.range keyed mapT
  refine ⟨w', _, _, hrun, put (fun k => k = b ∨ k = w.heap.size) w' (ARng b _ l _ _) ⟨⟨D, _, r1, hr⟩, fun _ => Iff.rfl⟩ ?_, fun c hc => (hr.has _).2 ⟨c, hc, rfl⟩⟩
  refine ⟨g.os, g.tape, g.output, g.size, fun k hk _ => g.block k hk (by simp), fun k hk => ?_⟩
  rcases hk with rfl | rfl
  · exact .inl ((h5 _).2 rfl)
  · exact .inr (Nat.le_refl _)
theorem rng_left (H : Own.St B w0 w Ps) (i : Nat) (hi : Ps[i]? = some (ARng b r l left cnt)) : w.rangeLeft b r = cnt := by
  obtain ⟨S, ⟨⟨D, n, hr, _⟩, _⟩, _⟩ := H.at i hi
  exact hr.left_eq
theorem rng_next (H : Own.St B w0 w Ps) (i : Nat) (hi : Ps[i]? = some (ARng b r l left cnt)) (ok : Ok l) (ty : TypeId) :
    ((∀ kl, left kl = false) ∧ (Instr.next (.pointer (some ⟨r, 0, none⟩)) false ty).run Try.prog w = .ok (.tuple #[.bool false]) w) ∨
    ∃ c w' left' cnt', c ∈ l ∧ left (kLit c.key) = true ∧ (Instr.next (.pointer (some ⟨r, 0, none⟩)) false ty).run Try.prog w = .ok (.tuple #[.bool true, kV c.key, chV c]) w' ∧ Own.St B w0 w' (Ps.set i (ARng b r l left' cnt')) ∧ cnt' < cnt ∧
      (∀ d ∈ l, d ≠ c → left' (kLit d.key) = left (kLit d.key)) ∧ left' (kLit c.key) = false ∧ (Instr.entry (.pointer (some ⟨r, 0, none⟩))).run Try.prog w' = .ok (.tuple #[kV c.key, chV c]) w' := by
  obtain ⟨S, ⟨⟨D, n, hr, hd⟩, h5⟩, _, put⟩ := H.at i hi
  rcases hr.next keyed ty with ⟨_, hl, hrun⟩ | ⟨key, v, kl, y, w', cnt', hkey, hlk, hv, hat, hrun, hrg, hlt, hgr, hsz, hen⟩
  · exact .inl ⟨hl, hrun⟩
  · right
    have hh := has_true_of_atKey hat
    obtain ⟨c, hc, e⟩ := (hd.has kl).1 hh
    have hck := key_of (ok.fit c hc).key
    rw [e] at hck
    have ek := keyed.inj hkey hck
    have h1 := hd.at_ c hc (.held v)
    rw [e, hat] at h1
    simp only [rawV, Option.some.injEq] at hv
    rw [← hv] at h1
    simp only [DataW.held.injEq] at h1
    rw [ek, h1] at hrun hen
    refine ⟨c, w', _, cnt', hc, by rw [e]; exact hlk, hrun, put (fun k => k = b ∨ k = r) w' (ARng b r l _ cnt') ⟨⟨D, n, hrg, hd⟩, fun _ => Iff.rfl⟩ ?_, hlt, fun d hd2 hne => ?_, ?_, hen⟩
    · exact ⟨hgr.os, hgr.tape, hgr.output, hgr.size, fun k hk hn => hgr.block k hk (fun e => hn ((h5 k).2 (.inr (by cases e; rfl)))), fun k hk => .inl ((h5 k).2 hk)⟩
    · have hkd : kLit d.key ≠ kl := fun e2 => hne (key_inj ok.sorted hd2 hc (kLit_inj (ok.fit d hd2).key (ok.fit c hc).key (by rw [e2, e])))
      show (left (kLit d.key) && !(kLit d.key).sameKey kl) = _
      rw [Maps.sameKey_ne hkd]
      simp
    · show (left (kLit c.key) && !(kLit c.key).sameKey kl) = false
      rw [← e, WideAt.sameKey_self (isKey (ok.fit c hc).key)]
      simp
theorem rng_end (H : Own.St B w0 w Ps) (i : Nat) (hi : Ps[i]? = some (ARng b r l left cnt)) : Own.St B w0 w (Ps.set i (ACh b l)) := by
  obtain ⟨S, ⟨⟨D, n, hr, hd⟩, h5⟩, _, put⟩ := H.at i hi
  exact put (fun k => k = b) w (ACh b l) ⟨⟨D, tight hr.owns hd, hd⟩, fun _ => Iff.rfl⟩ ((Step.refl S w).to fun k hk => .inl ((h5 k).2 (.inl hk)))
end
/-- an operation whose run is known -/
theorem wpList_runs {P : Program} {ops : Array Oper} {rest : List Oper} {o : Oper} {a : Go.Act} {w w' : World} {v : Value} {Q : Exit → Go.Act → World → Prop} (hgd : o.guard = none) (hrun : (execOp a.eval o).run P w = .ok (.value v) w') (h : wpList P ops Q rest (a.put o.dst v) w') : wpList P ops Q (o :: rest) a w := by
  refine wpList_plain hgd fun K hK => ?_
  unfold Oper.wp
  rw [hrun]
  exact hK _ _ h
theorem range_E {P : Program} {o : Oper} {x : Operand} {t : TypeId} (ho : o.op = .range t x) {ρ : Operand → Value} {w w' : World} {vm v : Value} (h0 : ρ x = vm) (hrun : (Instr.range t vm).run P w = .ok v w') : (execOp ρ o).run P w = .ok (.value v) w' := by
  simp [execOp, ho, h0, hrun, Result.andThen]
end Sto
end Go.Proofs.Ytepbdjgfaljbgaa

end
section
namespace Go.Proofs.Ytepbdjgfaljbgaa
open Go.RowKit Go.Own Go.Maps
namespace Sto
open Go.StoM Byt
/-- what has been met -/
noncomputable def met (left : Lit → Bool) (l : List Ch) : List Ch := l.filter fun c => !left (kLit c.key)
theorem met_step {l : List Ch} (ok : Ok l) {left left' : Lit → Bool} {c : Ch} (hc : c ∈ l) (h0 : left (kLit c.key) = true) (h1 : left' (kLit c.key) = false) (h2 : ∀ d ∈ l, d ≠ c → left' (kLit d.key) = left (kLit d.key)) : (met left' l).Perm (c :: met left l) :=
  filter_one (sorted_nodup ok.sorted) hc (by simp [h0]) (by simp [h1]) (fun d hd hne => by rw [h2 d hd hne])
section
variable {B : Nat} {w0 w : World} {Ps : List Asn} {p : Nat} {l : List Ch}
set_option maxRecDepth 10000 in
set_option maxHeartbeats 6400000 in
theorem chosen_some (g gs : Nat) (cb : Array Value) (q : Ch → Bool) (cf : Ch → Ch → Int) (eg : ∀ args w, (callFunc g args).run Try.prog w = .ok (.enter g args) w) (es : ∀ args w, (callFunc gs args).run Try.prog w = .ok (.enter gs args) w)
    (hO : Sort.SWO (ltOf fun x y : FC => cf x.1 y.1)) (hcf : ∀ a b : Ch, Fit a → Fit b → ∀ W, Calls Try.prog gs #[chV a, chV b] W fun e w' => e = .returned (iS (cf a b)) ∧ ∃ q os', w' = Sort.grow (W.drewN q) os')
    {b : Nat} (H : Own.St B w0 w (ACh b l :: AVals p 110 [.map (some b)] :: Ps)) (ok : Ok l) (hn : l.length ≤ 100000)
    (hw : ∀ c, Fit c → ∀ (Qs : List Asn) wx, Own.St B w0 wx (Qs ++ Ps) → Calls Try.prog g (#[chV c] ++ cb) wx fun e w' => e = .returned (.bool (q c)) ∧ Below wx.heap.size wx w')
    (R : List Ch) (hR : ∀ m : List Ch, m.Perm (l.filter q) → m.Pairwise (fun a b => ¬ cf b a < 0) → m = R) :
    Calls Try.prog 57 #[ptr p, .func (.func g) #[] cb, .func (.func gs) #[] #[]] w fun e w' => ∃ ao c, e = .returned (.slice ao R.length c) ∧ Own.St B w0 w' (ARow 74 37 (.slice ao R.length c) R.length (R.flatMap chC) :: ACh b l :: AVals p 110 [.map (some b)] :: Ps) := by
  have c0 := (H.cellV 1 rfl 0 rfl).1
  obtain ⟨w1, left0, cnt0, e1, h1, hl0⟩ := rng_start H 0 rfl
  simp only [List.set_cons_zero] at h1
  obtain ⟨r, hr⟩ : ∃ r, r = w.heap.size := ⟨_, rfl⟩
  rw [← hr] at e1 h1
  have HR := hr.symm
  have E1 := Lib.hid e1
  have h2 := h1.rowFresh (e := 74) (size := 37)
  have H2 := Lib.hid h2
  have HL0 := Lib.hid hl0
  have OK := Lib.hid ok
  clear e1 h1 h2 hl0 H hr
  go_enter Try.func57, Try.ntmps57
  go_wp2_with (refine wpList_runs rfl (range_E rfl rfl E1.out) ?_)

  go_loopw [7] (fun v7 wr => ∃ (acc : List Ch) (ao : Option Addr) (cap : Nat) (left : Lit → Bool) (cnt : Nat), v7 = .slice ao acc.length cap ∧ Own.St B w0 wr (ARow 74 37 (.slice ao acc.length cap) acc.length (acc.flatMap chC) :: ARng b r l left cnt :: AVals p 110 [.map (some b)] :: Ps) ∧ acc.Perm ((met left l).filter q)) (fun _ wr => wr.rangeLeft b r)
  case atStart =>
    refine ⟨[], none, 0, left0, cnt0, rfl, H2.out, ?_⟩
    have e : met left0 l = [] := by
      unfold met
      rw [List.filter_eq_nil_iff]
      intro c hc
      rw [HL0.out c hc]
      simp
    rw [e]
    exact List.Perm.refl _
  case round =>
    obtain ⟨acc, ao, cap, left, cnt, rfl, hst, hpm⟩ := hrel
    have H := Lib.hid hst
    have HP := Lib.hid hpm
    have hac : ∀ c ∈ acc, c ∈ l := fun c hc => (List.mem_filter.1 (List.mem_filter.1 (hpm.mem_iff.1 hc)).1).1
    have HAC := Lib.hid hac
    have hlen : acc.length ≤ l.length := by
      rw [hpm.length_eq]
      exact Nat.le_trans (List.length_filter_le _ _) (List.length_filter_le _ _)
    have HLN := Lib.hid hlen
    clear hst hpm H2 HL0 E1 hac hlen
    rcases rng_next H.out 1 rfl OK.out 0 with ⟨hno, hrun⟩ | ⟨c, w2, left', cnt', hc, hlc, hrun, h2, hlt, hoth, hl2, hen⟩
    · have HN := Lib.hid hno
      clear hno
      have hpf : acc.Perm (l.filter q) := by
        have e : met left l = l := by
          unfold met
          rw [List.filter_eq_self]
          intro c _
          rw [HN.out]
          rfl
        have := HP.out
        rwa [e] at this
      have hfit : ∀ c ∈ acc, Fit c := fun c hc => OK.out.fit c (HAC.out c hc)
      have hH := rng_end H.out 1 rfl
      simp only [List.set_cons_zero, List.set_cons_succ] at hH
      have CS := Lib.hid (sort_any gs cf hO hcf es hfit rfl (by have := HLN.out; omega) hH)
      have HPF := Lib.hid hpf
      clear hpf hfit hH
      go_wp2_with (fail)
      refine CS.out.mono ?_
      rintro e w3 ⟨rfl, m, hm1, hm2, h3⟩
      have hmR := hR m (hm1.trans HPF.out) hm2
      subst hmR
      have hln : acc.length = m.length := hm1.length_eq.symm
      rw [hln] at h3
      have H3 := Lib.hid h3
      have HLL := Lib.hid hln
      clear h3 hm1 hm2 hln CS hR hO hcf hw HP
      go_wp2_with (fail)
      go_ret
      exact ⟨ao, cap, by rw [HLL.out]; rfl, H3.out⟩
    · simp only [List.set_cons_zero, List.set_cons_succ] at h2
      have hfc := OK.out.fit c hc
      obtain ⟨cs, hcs⟩ : ∃ x, x = chC c := ⟨_, rfl⟩
      obtain ⟨kc, hkc⟩ : ∃ x, x = kV c.key := ⟨_, rfl⟩
      have ecs : chV c = .agg cs.toArray := by rw [hcs]; rfl
      rw [ecs, ← hkc] at hrun hen
      have CL : Hid (cs.length = 37) := by show _ = _; rw [hcs]; exact chC_len hfc.key
      have CO : Hid (∀ u ∈ cs, u.oneCell' = true) := by show ∀ u ∈ cs, _; rw [hcs]; exact chC_one _
      have H2 := Lib.hid h2
      have CW : Hid (∀ (Qs : List Asn) wx, Own.St B w0 wx (Qs ++ Ps) → Calls Try.prog g (#[.agg cs.toArray] ++ cb) wx fun e w' => e = .returned (.bool (q c)) ∧ Below wx.heap.size wx w') := by
        rw [hcs]
        exact fun Qs wx hwx => hw c hfc Qs wx hwx
      have MT := Lib.hid (met_step OK.out hc hlc hl2 hoth)
      have HLT : Hid (w2.rangeLeft b r < wr.rangeLeft b r) := by
        show _ < _
        rw [rng_left H.out 1 rfl, rng_left h2 1 rfl]
        exact hlt
      have HCL : Hid (wr.rangeLeft b r = cnt) := rng_left H.out 1 rfl
      have HCC := Lib.hid hlt
      have HQ := Lib.hid hcs
      clear hcs hkc ecs h2 hlt hlc hoth hl2 hfc H
      go_wp2_with (first
        | (refine wpList_box2 boxy_ch rfl rfl rfl (.tmp 9) (.tmp 20) rfl rfl cs (fun _ => rfl) (fun _ => rfl) CL.out CO.out H2.out ?_; intro b9 w3 h; have H3 := Lib.hid h; clear h)
        | (refine wpList_val rfl (load_ch cs CL.out rfl _ (b := b9) (k := 0) (H3.out.boxRange 0 rfl) rfl) ?_))
      refine (CW.out [_, _, _, _] w3 H3.out).mono ?_
      rintro e w4 ⟨rfl, h4⟩
      have H4 := Lib.hid (H3.out.later h4)
      clear h4 CW H3 H2
      cases hq : q c
      · have HMT : Hid (acc.Perm ((met left' l).filter q)) := by
          have h1 := MT.out.filter q
          rw [List.filter_cons_of_neg (by simp [hq])] at h1
          exact HP.out.trans h1.symm
        clear hq
        go_wp2_with (fail)
        go_roundw
        case rel => exact ⟨acc, ao, cap, left', cnt', rfl, H4.out.drop 1, HMT.out⟩
        case measure =>
          have h1 := rng_left H4.out 2 rfl
          rw [h1, HCL.out]
          exact HCC.out
      · have HMT : Hid ((acc ++ [c]).Perm ((met left' l).filter q)) := by
          have h1 := MT.out.filter q
          rw [List.filter_cons_of_pos hq] at h1
          exact (List.perm_append_comm.trans (HP.out.cons c)).trans h1.symm
        have hb := H4.out.boxV 74 cs
        have HBX := Lib.hid hb
        have HC : Hid (∀ a, some (⟨w4.heap.size, 0, none⟩ : Addr) = some a → ∀ j u, cs[j]? = some u → (w4.alloc (.cells cs.toArray 74)).cell? (a.add j) = some u) := by
          intro a ha j u hu
          cases ha
          rw [add_of, Nat.zero_add]
          exact (HBX.out.cellV 0 rfl j hu).1
        have hcap := HLN.out
        clear hq hb
        go_wp2_with (first
          | (refine wpList_val rfl (load_ch cs CL.out rfl _ (b := b9) (k := 0) (H4.out.boxRange 0 rfl) rfl) ?_)
          | (refine wpList_slot_one rfl 64 (.tmp 25) rfl cs 74 rfl (slot_ch cs CL.out _) ?_)
          | (at_builtin; refine wpList_many_append many_ch rfl (.tmp 24) (.tmp 26) rfl HBX.out 2 rfl rfl (some ⟨w4.heap.size, 0, none⟩) 1 1 cs rfl (by intro h; cases h) (by rw [CL.out]) HC.out CO.out (by omega) (by decide) ?_; intro a2 c2 w5 h5; simp only [List.set_cons_zero, List.set_cons_succ] at h5 ⊢; have H5 := Lib.hid h5; clear h5))
        go_roundw
        case rel =>
          refine ⟨acc ++ [c], a2, c2, left', cnt', by rw [List.length_append]; rfl, ?_, HMT.out⟩
          have h := H5.out.drop 2
          simp only [List.drop_succ_cons, List.drop_zero] at h
          rw [List.length_append, List.flatMap_append, List.flatMap_singleton, ← HQ.out]
          exact h
        case measure =>
          have h1 := rng_left H5.out 3 rfl
          rw [h1, HCL.out]
          exact HCC.out
set_option maxRecDepth 10000 in
set_option maxHeartbeats 6400000 in
theorem chosen_nil (g gs : Nat) (cb : Array Value) (H : Own.St B w0 w (AVals p 110 [.map none] :: Ps)) :
    Calls Try.prog 57 #[ptr p, .func (.func g) #[] cb, .func (.func gs) #[] #[]] w fun e w' => e = .returned (.slice none 0 0) ∧ Own.St B w0 w' (AVals p 110 [.map none] :: Ps) := by
  have c0 := (H.cellV 0 rfl 0 rfl).1
  have e1 := run_range_nilMap (P := Try.prog) w 108 36 74 mapT
  have e2 := run_next_nilMap (P := Try.prog) w 0 0 0 #[]
  have HS : Hid (Calls Try.prog 63 #[.slice none 0 0, .func (.func gs) #[] #[]] (w.alloc (.mapIter none 0 #[] 0)) fun e w' => e = .returned (.tuple #[]) ∧ w' = w.alloc (.mapIter none 0 #[] 0)) := AnyF.slices_SortFunc_none sortCh none 0 _ _
  have H1 := Lib.hid (H.alloc (.mapIter none 0 #[] 0))
  clear H
  go_enter Try.func57, Try.ntmps57
  go_wp2
  go_simp
  go_loopw [7] (fun v7 wr => v7 = .slice none 0 0 ∧ wr = w.alloc (.mapIter none 0 #[] 0)) (fun _ wr => 0)
  case atStart => exact ⟨rfl, rfl⟩
  case round =>
    obtain ⟨rfl, rfl⟩ := hrel
    go_wp2_with (fail)
    refine HS.out.mono ?_
    rintro e w3 ⟨rfl, rfl⟩
    go_wp2_with (fail)
    go_ret
    exact ⟨rfl, H1.out⟩
/-- the same of a store as it stands -/
theorem chosen_any (g gs : Nat) (cb : Array Value) (q : Ch → Bool) (cf : Ch → Ch → Int) (eg : ∀ args w, (callFunc g args).run Try.prog w = .ok (.enter g args) w) (es : ∀ args w, (callFunc gs args).run Try.prog w = .ok (.enter gs args) w)
    (hO : Sort.SWO (ltOf fun x y : FC => cf x.1 y.1)) (hcf : ∀ a b : Ch, Fit a → Fit b → ∀ W, Calls Try.prog gs #[chV a, chV b] W fun e w' => e = .returned (iS (cf a b)) ∧ ∃ q os', w' = Sort.grow (W.drewN q) os')
    (H : Own.St B w0 w (AS p l :: Ps)) (ok : Ok l) (hn : l.length ≤ 100000)
    (hw : ∀ c, Fit c → ∀ (Qs : List Asn) wx, Own.St B w0 wx (Qs ++ Ps) → Calls Try.prog g (#[chV c] ++ cb) wx fun e w' => e = .returned (.bool (q c)) ∧ Below wx.heap.size wx w')
    (R : List Ch) (hR : ∀ m : List Ch, m.Perm (l.filter q) → m.Pairwise (fun a b => ¬ cf b a < 0) → m = R) :
    Calls Try.prog 57 #[ptr p, .func (.func g) #[] cb, .func (.func gs) #[] #[]] w fun e w' => ∃ ao c, e = .returned (.slice ao R.length c) ∧ Own.St B w0 w' (ARow 74 37 (.slice ao R.length c) R.length (R.flatMap chC) :: AS p l :: Ps) := by
  obtain ⟨m, hm, h⟩ := as_open H
  cases m with
  | some b =>
    refine (chosen_some (p := p) g gs cb q cf eg es hO hcf (b := b) h.swap2 ok hn hw R hR).mono ?_
    rintro e w' ⟨ao, c, rfl, h2⟩
    refine ⟨ao, c, rfl, ?_⟩
    have h3 := Own.St.perm_app (Xs := [ARow 74 37 (.slice ao R.length c) R.length (R.flatMap chC)]) (Ys := [ACh b l, AVals p 110 [.map (some b)]]) (Zs := Ps) h2
    have h4 : Own.St B w0 w' (AS p l :: (Ps ++ [ARow 74 37 (.slice ao R.length c) R.length (R.flatMap chC)])) := as_close (m := some b) (fun h => by cases h) (Own.St.swap2 h3)
    exact h4.perm (by
      rw [← List.cons_append]
      exact List.perm_append_comm)
  | none =>
    have hl := hm rfl
    subst hl
    have hR0 : R = [] := (hR [] (by simp) List.Pairwise.nil).symm
    subst hR0
    refine (chosen_nil g gs cb h).mono ?_
    rintro e w' ⟨rfl, h2⟩
    exact ⟨none, 0, rfl, Own.St.rowFresh (as_close (m := none) (fun _ => rfl) h2)⟩
end
end Sto
end Go.Proofs.Ytepbdjgfaljbgaa

end
section
namespace Go.Proofs.Ytepbdjgfaljbgaa
open Go.RowKit Go.Own Go.Maps
namespace Sto
open Go.StoM Byt
theorem order_k {l m : List Ch} {q : Ch → Bool} (hs : Sorted l) (hp : m.Perm (l.filter q)) (h : m.Pairwise fun a b => ¬ keyCmp b.key a.key < 0) : m = l.filter q := by
  refine filter_eq hs ?_ hp
  have hn : m.Nodup := hp.nodup_iff.2 ((sorted_nodup hs).filter _)
  refine List.Pairwise.imp_of_mem ?_ (h.and hn)
  rintro a b ha hb ⟨h1, h2⟩
  have ha2 := (List.mem_filter.1 (hp.mem_iff.1 ha)).1
  have hb2 := (List.mem_filter.1 (hp.mem_iff.1 hb)).1
  rw [keyCmp_neg] at h1
  rcases less_total a.key b.key with g | g | g
  · exact g
  · exact absurd (key_inj hs ha2 hb2 g) h2
  · exact absurd g h1
theorem order_p {l m : List Ch} {seg : Int} (hs : Sorted l) (hp : m.Perm (l.filter fun c => decide (c.place.seg = seg))) (h : m.Pairwise fun a b => ¬ pageCmp b a < 0) : m = live seg l := by
  refine live_eq seg hs ?_ hp
  have hn : m.Nodup := hp.nodup_iff.2 ((sorted_nodup hs).filter _)
  refine List.Pairwise.imp_of_mem ?_ (h.and hn)
  rintro a b ha hb ⟨h1, h2⟩
  have ha2 := (List.mem_filter.1 (hp.mem_iff.1 ha)).1
  have hb2 := (List.mem_filter.1 (hp.mem_iff.1 hb)).1
  rw [pageCmp_neg] at h1
  rcases lessP_total a b with g | g | g
  · exact g
  · exact absurd (key_inj hs ha2 hb2 g) h2
  · exact absurd g h1
theorem info_sumA (cs : List Value) (h : cs.length = 32) : (Try.prog.info? 34).map (·.size) = some cs.length := by
  have h0 : (Try.prog.info? 34).map (fun i => i.size) = some 32 := by kernel_rfl
  rw [h]; exact h0
theorem load_sum (cs : List Value) (hl : cs.length = 32) {o : Oper} {x : Tmp} (ho : o.op = .load 34 (.tmp x)) {b k : Nat} (ρ : Operand → Value) {w : World} (hr : w.rangeAt b k cs) (h0 : ρ (.tmp x) = .pointer (some ⟨b, k, none⟩)) : (execOp ρ o).run Try.prog w = .ok (.value (.agg cs.toArray)) w := by
  have := run_loadAt_mid (P := Try.prog) w b k 34 cs _ hr Try.underlying34 rfl (info_sumA cs hl)
  unfold execOp
  simp only [ho, h0, Sem.run_bind, this, Result.andThen_ok, Sem.run_pure]
theorem eql_sum {o : Oper} {x y : Tmp} (ho : o.op = .binOp .eql 34 (.tmp x) (.tmp y) 34) {a b : List UInt8} (ha : a.length = 32) (hb : b.length = 32) {v : Bool} (hv : decide (a = b) = v) (ρ : Operand → Value) (w : World)
    (h0 : ρ (.tmp x) = .agg (a.map byteV).toArray) (h1 : ρ (.tmp y) = .agg (b.map byteV).toArray) : (execOp ρ o).run Try.prog w = .ok (.value (.bool v)) w := by
  have h' := Rec.run_eq_sum 9998 a b ha hb w
  have hm : Try.prog.eqGuardType Try.prog.depth 34 = false := by kernel_rfl
  have hg := run_eqGuard_agg (P := Try.prog) w .eql 34 (.tmp x) (.tmp y) (a.map byteV).toArray (b.map byteV).toArray hm
  have hq : (Op.equal 34 (.agg (a.map byteV).toArray) (.agg (b.map byteV).toArray)).run Try.prog w = .ok (decide (a = b)) w := h'
  have hb : (binOp .eql 34 (.agg (a.map byteV).toArray) (.agg (b.map byteV).toArray)).run Try.prog w = .ok (.bool v) w := by simp [binOp, hq, hv]
  unfold execOp
  simp only [ho, h0, h1, Sem.run_bind, hg, Result.andThen_ok, hb, Sem.run_pure]
section
variable {B : Nat} {w0 w : World} {Ps : List Asn} {p : Nat} {l : List Ch}
/-- the closures -/
theorem all_cl (c : Ch) (w : World) : Calls Try.prog 60 #[chV c] w fun e w' => e = .returned (.bool true) ∧ Below w.heap.size w w' := by
  obtain ⟨cs, hcs⟩ : ∃ x, x = chC c := ⟨_, rfl⟩
  have HB : Hid (Below w.heap.size w (w.alloc (.cells cs.toArray 74))) := ((Own.St.start w).alloc _).below
  show Calls Try.prog _ #[.agg (chC c).toArray] w _
  rw [← hcs]
  clear hcs
  go_enter Try.func60, Try.ntmps60
  go_wp2
  go_ret
  exact ⟨rfl, HB.out⟩
theorem live_cl (c : Ch) (hc : Fit c) (seg : Int) (b : Nat) (c0 : w.cell? ⟨b, 0, none⟩ = some (iS seg)) : Calls Try.prog 58 #[chV c, ptr b] w fun e w' => e = .returned (.bool (decide (c.place.seg = seg))) ∧ Below w.heap.size w w' := by
  obtain ⟨cs, hcs⟩ : ∃ x, x = chC c := ⟨_, rfl⟩
  obtain ⟨s, hs⟩ : ∃ x, x = c.place.seg := ⟨_, rfl⟩
  have hbx := (Own.St.start w).boxV 74 cs
  have d0 := (hbx.cellV 0 rfl 33 (v := .int .i64 s) (by rw [hcs, hs]; exact chC_rest hc.key 0)).1
  have HB : Hid (Below w.heap.size w (w.alloc (.cells cs.toArray 74))) := hbx.below
  have d1 : (w.alloc (.cells cs.toArray 74)).cell? ⟨b, 0, none⟩ = some (.int .i64 seg) := cellLater' c0 HB.out
  obtain ⟨t, ht⟩ : ∃ t, t = decide (s = seg) := ⟨_, rfl⟩
  have hb : (s == seg) = t := by rw [ht]; rfl
  show Calls Try.prog _ #[.agg (chC c).toArray, _] w _
  rw [← hcs, ← hs, ← ht]
  clear hcs hs hbx c0 ht
  go_enter Try.func58, Try.ntmps58
  go_wp2
  go_ret
  exact ⟨by simp, HB.out⟩
theorem twin_cl (c : Ch) (hc : Fit c) (d : List UInt8) (hd : d.length = 32) (b : Nat) (c0 : w.rangeAt b 0 (d.map byteV)) : Calls Try.prog 62 #[chV c, ptr b] w fun e w' => e = .returned (.bool (decide (c.key.sum = d))) ∧ Below w.heap.size w w' := by
  obtain ⟨cs, hcs⟩ : ∃ x, x = chC c := ⟨_, rfl⟩
  have hbx := (Own.St.start w).boxV 74 cs
  have HB : Hid (Below w.heap.size w (w.alloc (.cells cs.toArray 74))) := hbx.below
  have R1 : Hid ((w.alloc (.cells cs.toArray 74)).rangeAt w.heap.size 0 (c.key.sum.map byteV)) := fun j v hv => by
    rw [Nat.zero_add]
    exact (hbx.cellV 0 rfl j (by rw [hcs]; exact chC_key hc.key j v (kC_sum j v hv))).1
  have R2 : Hid ((w.alloc (.cells cs.toArray 74)).rangeAt b 0 (d.map byteV)) := fun j v hv => cellLater' (c0 j v hv) HB.out
  obtain ⟨t, ht⟩ : ∃ t, t = decide (c.key.sum = d) := ⟨_, rfl⟩
  obtain ⟨s1, hs1⟩ : ∃ x, x = c.key.sum := ⟨_, rfl⟩
  have hl1 : s1.length = 32 := by rw [hs1]; exact hc.key.sum
  rw [← hs1] at R1 ht
  obtain ⟨x1, hx1⟩ : ∃ x, x = s1.map byteV := ⟨_, rfl⟩
  obtain ⟨x2, hx2⟩ : ∃ x, x = d.map byteV := ⟨_, rfl⟩
  rw [← hx1] at R1
  rw [← hx2] at R2
  have L1 : Hid (x1.length = 32) := by show _ = _; rw [hx1, List.length_map, hl1]
  have L2 : Hid (x2.length = 32) := by show _ = _; rw [hx2, List.length_map, hd]
  have EQ : Hid (∀ (o : Oper) (x y : Tmp), o.op = .binOp .eql 34 (.tmp x) (.tmp y) 34 → ∀ (ρ : Operand → Value) (w : World), ρ (.tmp x) = .agg x1.toArray → ρ (.tmp y) = .agg x2.toArray → (execOp ρ o).run Try.prog w = .ok (.value (.bool t)) w) := by
    intro o x y ho ρ w h0 h1
    rw [hx1] at h0
    rw [hx2] at h1
    exact eql_sum ho hl1 hd ht.symm ρ w h0 h1
  show Calls Try.prog _ #[.agg (chC c).toArray, _] w _
  rw [← hcs, ← hs1, ← ht]
  clear hcs hbx c0 ht hs1 hl1 hx1 hx2 hc hd
  go_enter Try.func62, Try.ntmps62
  go_wp2_with (first
    | (refine wpList_val rfl (load_sum x1 L1.out rfl _ (b := w.heap.size) (k := 0) R1.out rfl) ?_)
    | (refine wpList_val rfl (load_sum x2 L2.out rfl _ (b := b) (k := 0) R2.out rfl) ?_)
    | (refine wpList_val rfl (EQ.out _ _ _ rfl _ _ rfl rfl) ?_))
  go_ret
  exact ⟨rfl, HB.out⟩
theorem all_any (H : Own.St B w0 w (AS p l :: Ps)) (ok : Ok l) (hn : l.length ≤ 100000) : Calls Try.prog 37 #[ptr p] w fun e w' => ∃ ao c, e = .returned (.slice ao l.length c) ∧ Own.St B w0 w' (ARow 74 37 (.slice ao l.length c) l.length (l.flatMap chC) :: AS p l :: Ps) := by
  have C := Lib.hid (chosen_any 60 61 #[] (fun _ => true) (fun a b => keyCmp a.key b.key) (enters_of Try.func60 (by kernel_rfl) rfl) (enters_of Try.func61 (by kernel_rfl) rfl) swoK byKey_any H ok hn
    (fun c _ _ wx _ => all_cl c wx) l (fun m hp hs => by
      have := order_k ok.sorted hp hs
      rwa [List.filter_eq_self.2 (fun _ _ => rfl)] at this))
  clear H
  go_enter Try.func37, Try.ntmps37
  go_wp2_with (fail)
  refine C.out.mono ?_
  rintro e w1 ⟨ao, c, rfl, h⟩
  have H1 := Lib.hid h
  clear h C
  go_wp2
  go_ret
  exact ⟨ao, c, rfl, H1.out⟩
theorem twins_any (H : Own.St B w0 w (AS p l :: Ps)) (ok : Ok l) (hn : l.length ≤ 100000) (d : List UInt8) (hd : d.length = 32) : Calls Try.prog 38 #[ptr p, .agg (d.map byteV).toArray] w fun e w' => ∃ ao c, e = .returned (.slice ao (twins l d).length c) ∧ Own.St B w0 w' (ARow 74 37 (.slice ao (twins l d).length c) (twins l d).length ((twins l d).flatMap chC) :: AS p l :: Ps) := by
  have hb := (H.boxV 34 (d.map byteV)).swap2
  have C := Lib.hid (chosen_any 62 61 #[ptr w.heap.size] (fun c => decide (c.key.sum = d)) (fun a b => keyCmp a.key b.key) (enters_of Try.func62 (by kernel_rfl) rfl) (enters_of Try.func61 (by kernel_rfl) rfl) swoK byKey_any hb ok hn
    (fun c hc Qs wx hwx => twin_cl c hc d hd w.heap.size (Own.St.boxRange (cs := d.map byteV) (ty := 34) hwx Qs.length (by simp))) (twins l d) (fun m hp hs => order_k ok.sorted hp hs))
  obtain ⟨ds, hds⟩ : ∃ x, x = d.map byteV := ⟨_, rfl⟩
  rw [← hds] at C ⊢
  clear H hb hds
  go_enter Try.func38, Try.ntmps38
  go_wp2_with (fail)
  refine C.out.mono ?_
  rintro e w1 ⟨ao, c, rfl, h⟩
  have H1 := Lib.hid h
  clear h C
  go_wp2
  go_ret
  exact ⟨ao, c, rfl, (H1.out.perm ((List.Perm.swap _ _ _).cons _)).drop2⟩
/-- how many pages they have -/
def pagesN : List Ch → Int → Int
  | [], n => n
  | c :: l, n => pagesN l (IntKind.i64.wrap (n + c.place.pages))
theorem idx_ch {o : Oper} {x y : Tmp} (ho : o.op = .indexAddr 64 (.tmp x) (.tmp y)) {g n c k : Nat} (hk : k < n) (ρ : Operand → Value) (w : World) (h0 : ρ (.tmp x) = .slice (some ⟨g, 0, none⟩) n c) (h1 : ρ (.tmp y) = .int .i64 (k : Int)) : (execOp ρ o).run Try.prog w = .ok (.value (.pointer (some ⟨g, k * 37, none⟩))) w := by
  have hk' : (k : Int) < (n : Int) := by omega
  have hs : ∀ w, (sizeOf 74).run Try.prog w = .ok 37 w := fun w => by kernel_rfl
  simp [execOp, ho, h0, h1, go_sem, hk', add_of, hs]
set_option maxRecDepth 10000 in
set_option maxHeartbeats 3200000 in
theorem live_any (H : Own.St B w0 w (AS p l :: Ps)) (ok : Ok l) (hn : l.length ≤ 100000) (seg : Int) (hs : i64S seg) : Calls Try.prog 35 #[ptr p, iS seg] w fun e w' => ∃ ao c, e = .returned (.tuple #[.slice ao (live seg l).length c, iS (pagesN (live seg l) 0)]) ∧ Own.St B w0 w' (ARow 74 37 (.slice ao (live seg l).length c) (live seg l).length ((live seg l).flatMap chC) :: AS p l :: Ps) := by
  have hb := (H.boxV 3 [iS seg]).swap2
  have C := Lib.hid (chosen_any 58 59 #[ptr w.heap.size] (fun c => decide (c.place.seg = seg)) pageCmp (enters_of Try.func58 (by kernel_rfl) rfl) (enters_of Try.func59 (by kernel_rfl) rfl) swoP byPage_any hb ok hn
    (fun c hc Qs wx hwx => live_cl c hc seg w.heap.size (hwx.cellV (t := 3) (vs := [iS seg]) Qs.length (by simp) 0 rfl).1) (live seg l) (fun m hp hs => order_p ok.sorted hp hs))
  obtain ⟨L, hL⟩ : ∃ L, L = live seg l := ⟨_, rfl⟩
  have hfit : ∀ c ∈ L, Fit c := fun c hc => ok.fit c (List.mem_filter.1 ((live_is seg ok.sorted).2.mem_iff.1 (hL ▸ hc))).1
  have hlen : L.length ≤ 100000 := by
    rw [hL, (live_is seg ok.sorted).2.length_eq]
    exact Nat.le_trans (List.length_filter_le _ _) hn
  rw [← hL] at C ⊢
  have HF := Lib.hid hfit
  obtain ⟨n, hnn⟩ : ∃ n, n = L.length := ⟨_, rfl⟩
  rw [← hnn] at C hlen ⊢
  have HN := Lib.hid hnn
  clear H hb hL hfit ok hn hs hnn
  go_enter Try.func35, Try.ntmps35
  go_wp2_with (fail)
  refine C.out.mono ?_
  rintro e w1 ⟨ao, cap, rfl, h⟩
  have H1 := Lib.hid h
  clear h C
  go_wp2_with (fail)
  go_loopw [7, 15] (fun v7 v15 wr => ∃ (x : Int) (i : Nat), i ≤ n ∧ v7 = .int .i64 x ∧ v15 = .int .i64 (i : Int) ∧ (∃ Qs, Own.St B w0 wr (ARow 74 37 (.slice ao n cap) n (L.flatMap chC) :: AS p l :: Qs ++ Ps)) ∧ pagesN L 0 = pagesN (L.drop i) x) (fun _ v15 _ => n - (intOf v15).toNat)
  case atStart => exact ⟨0, 0, Nat.zero_le _, rfl, rfl, ⟨[_], H1.out⟩, rfl⟩
  case round =>
    obtain ⟨x, i, hin, rfl, rfl, ⟨Qs, hst⟩, hx⟩ := hrel
    have H := Lib.hid hst
    have HX := Lib.hid hx
    clear hst hx H1
    by_cases hi : (i : Int) < (n : Int)
    · have hin2 : i < n := by omega
      have hil : i < L.length := by rw [← HN.out]; exact hin2
      obtain ⟨g, hg, _, _⟩ := H.out.rowAt 0 rfl (i * 37) (by omega)
      subst hg
      obtain ⟨c, hc⟩ : ∃ c, c = L[i] := ⟨_, rfl⟩
      have hcm : c ∈ L := by rw [hc]; exact List.getElem_mem hil
      have hfc := HF.out c hcm
      obtain ⟨cs, hcs⟩ : ∃ x, x = chC c := ⟨_, rfl⟩
      have CL : Hid (cs.length = 37) := by show _ = _; rw [hcs]; exact chC_len hfc.key
      have CO : Hid (∀ u ∈ cs, u.oneCell' = true) := by show ∀ u ∈ cs, _; rw [hcs]; exact chC_one _
      have RG : Hid (wr.rangeAt g (i * 37) cs) := by
        intro k u hu
        have hk : k < 37 := by rw [← CL.out]; exact (List.getElem?_eq_some_iff.1 hu).1
        obtain ⟨g', hg', ⟨u', h1, h2⟩, _⟩ := H.out.rowAt 0 rfl (i * 37 + k) (by omega)
        cases hg'
        rw [flat_at chC 37 L (fun c hc => chC_len (HF.out c hc).key) i c (by rw [hc]; exact List.getElem?_eq_getElem hil) k hk, ← hcs, hu] at h1
        cases h1
        exact h2
      obtain ⟨pg, hpg⟩ : ∃ x, x = c.place.pages := ⟨_, rfl⟩
      have C35 : Hid (cs[35]? = some (iS pg)) := by show _ = _; rw [hcs, hpg]; exact chC_rest hfc.key 2
      obtain ⟨y, hy⟩ : ∃ y, y = IntKind.i64.wrap (x + pg) := ⟨_, rfl⟩
      have HY := hy.symm
      have HNX : Hid (pagesN L 0 = pagesN (L.drop (i + 1)) y) := by
        show _ = _
        rw [HX.out, List.drop_eq_getElem_cons hil, ← hc, hy, hpg]
        rfl
      clear hc hcm hfc hcs hpg hy HX hil
      go_wp2_with (first
        | (refine wpList_val rfl (idx_ch rfl hin2 _ _ rfl rfl) ?_)
        | (refine wpList_val rfl (load_ch cs CL.out rfl _ (b := g) (k := i * 37) RG.out rfl) ?_)
        | (refine wpList_box2 boxy_ch rfl rfl rfl (.tmp 9) (.tmp 18) rfl rfl cs (fun _ => rfl) (fun _ => rfl) CL.out CO.out H.out ?_; intro b9 w3 h; have q0 := (h.cellV 0 rfl 35 (v := .int .i64 pg) C35.out).1; have H3 := Lib.hid h; clear h))
      go_roundw
      case rel => exact ⟨y, i + 1, by omega, rfl, by go_num, ⟨Qs, H3.out.drop 1⟩, HNX.out⟩
      case measure => simp [intOf]; omega
    · have hi2 : i = n := by omega
      subst hi2
      have HE : Hid (pagesN L 0 = x) := by
        show _ = _
        rw [HX.out, HN.out, List.drop_length]
        rfl
      clear HX
      go_wp2_with (fail)
      go_ret2
      refine ⟨ao, cap, by rw [HE.out]; rfl, ?_⟩
      have h1 := Own.St.perm_app (Xs := [ARow 74 37 (.slice ao i cap) i (L.flatMap chC), AS p l]) (Ys := Qs) (Zs := Ps) H.out
      have h2 := h1.drop Qs.length
      rw [List.drop_left] at h2
      exact h2.perm List.perm_append_comm
end
end Sto
end Go.Proofs.Ytepbdjgfaljbgaa

end
section
namespace Go.Proofs.Ytepbdjgfaljbgaa
open Go.RowKit Go.Own Go.Maps
namespace Sto
open Go.StoM Byt
def actC (a : ActD) : List Value := .int .u8 (a.kind.toNat : Int) :: (kC a.k ++ pC a.p)
structure FitA (a : ActD) : Prop where
  k : FitK a.k
  p : FitP a.p
theorem actC_len {a : ActD} (h : FitA a) : (actC a).length = 37 := by unfold actC; simp [kC_len h.k, pC]
theorem actC_one (a : ActD) : ∀ u ∈ actC a, u.oneCell' = true := by
  intro u hu
  unfold actC pC at hu
  simp only [List.mem_cons, List.mem_append, List.not_mem_nil, or_false] at hu
  rcases hu with rfl | h | rfl | rfl | rfl
  · rfl
  · exact kC_one _ u h
  all_goals rfl
theorem info_act (cs : List Value) (h : cs.length = 37) : (Try.prog.info? 82).map (·.size) = some cs.length := by
  have h0 : (Try.prog.info? 82).map (fun i => i.size) = some 37 := by kernel_rfl
  rw [h]; exact h0
theorem load_act (cs : List Value) (hl : cs.length = 37) {o : Oper} {x : Tmp} (ho : o.op = .load 82 (.tmp x)) {b k : Nat} (ρ : Operand → Value) {w : World} (hr : w.rangeAt b k cs) (h0 : ρ (.tmp x) = .pointer (some ⟨b, k, none⟩)) : (execOp ρ o).run Try.prog w = .ok (.value (.agg cs.toArray)) w := by
  have := run_loadAt_mid (P := Try.prog) w b k 82 cs _ hr Try.underlying82 rfl (info_act cs hl)
  unfold execOp
  simp only [ho, h0, Sem.run_bind, this, Result.andThen_ok, Sem.run_pure]
def zA : ActD := ⟨0, zeroCh.key, zeroCh.place⟩
theorem boxy_act : Boxy Try.prog 82 37 := boxy_of (actC zA).toArray (by kernel_rfl) (by kernel_rfl) (by kernel_rfl)
theorem idx_act {o : Oper} {x y : Tmp} (ho : o.op = .indexAddr 77 (.tmp x) (.tmp y)) {b o' n c k : Nat} (hk : k < n) (ρ : Operand → Value) (w : World) (h0 : ρ (.tmp x) = .slice (some ⟨b, o', none⟩) n c) (h1 : ρ (.tmp y) = .int .i64 (k : Int)) : (execOp ρ o).run Try.prog w = .ok (.value (.pointer (some ⟨b, o' + k * 37, none⟩))) w := by
  have hk' : (k : Int) < (n : Int) := by omega
  have hs : ∀ w, (sizeOf 82).run Try.prog w = .ok 37 w := fun w => by kernel_rfl
  simp [execOp, ho, h0, h1, go_sem, hk', add_of, hs]
theorem actC_key {a : ActD} (j : Nat) (u : Value) (hu : (kC a.k)[j]? = some u) : (actC a)[1 + j]? = some u := by
  unfold actC
  rw [Nat.add_comm, List.getElem?_cons_succ, List.getElem?_append_left (List.getElem?_eq_some_iff.1 hu).1]
  exact hu
theorem actC_pl {a : ActD} (h : FitA a) (j : Nat) : (actC a)[34 + j]? = (pC a.p)[j]? := by
  unfold actC
  rw [show 34 + j = (33 + j) + 1 by omega, List.getElem?_cons_succ, List.getElem?_append_right (by rw [kC_len h.k]; omega), kC_len h.k]
  congr 1
  omega
/-- the bounds of what some acts leave -/
structure Lim (l : List Ch) (N : Nat) : Prop where
  len : l.length ≤ N
  refs : ∀ c ∈ l, 1 ≤ c.refs ∧ c.refs ≤ N
theorem Lim.more {l : List Ch} {N M : Nat} (h : Lim l N) (hm : N ≤ M) : Lim l M := ⟨Nat.le_trans h.len hm, fun c hc => ⟨(h.refs c hc).1, by have := (h.refs c hc).2; omega⟩⟩
theorem lim_put {l : List Ch} {N : Nat} (ok : Ok l) (h : Lim l N) {c : Ch} (hr : 1 ≤ c.refs ∧ c.refs ≤ (N : Int) + 1) : Lim (putS l c) (N + 1) := by
  refine ⟨?_, fun d hd => ?_⟩
  · rw [putS_len]
    have := h.len
    split <;> omega
  · rcases (mem_putS ok.sorted).1 hd with g | g
    · have := h.refs d g.1
      exact ⟨this.1, by have := this.2; omega⟩
    · rw [g]; exact ⟨hr.1, by have := hr.2; omega⟩
theorem ok_erase {l : List Ch} (ok : Ok l) (i : Nat) : Ok (l.eraseIdx i) := ⟨sorted_erase ok.sorted i, fun c hc => ok.fit c ((List.eraseIdx_sublist _ _).subset hc)⟩
theorem lim_erase {l : List Ch} {N : Nat} (h : Lim l N) (i : Nat) : Lim (l.eraseIdx i) (N + 1) := by
  refine ⟨?_, fun c hc => ?_⟩
  · have := h.len
    have := (List.eraseIdx_sublist l i).length_le
    omega
  · have := h.refs c ((List.eraseIdx_sublist _ _).subset hc)
    exact ⟨this.1, by have := this.2; omega⟩
theorem get_lim {l : List Ch} {N : Nat} (h : Lim l N) {k : Ky} (hk : isAt l k = true) : 1 ≤ (getS l k).refs ∧ (getS l k).refs ≤ N := by
  rw [getS_at hk]
  exact h.refs _ (at_mem hk).1
theorem fit_wR {l : List Ch} (ok : Ok l) (k : Ky) {x : Int} (hx : i64S x) : Fit (wR (getS l k) x) := ⟨(getS_fit ok k).key, (getS_fit ok k).place, hx⟩
theorem act_ok {l : List Ch} {N : Nat} (ok : Ok l) (h : Lim l N) (hN : N ≤ 1000000) {a : ActD} (fa : FitA a) : Ok (doAct l a).1 ∧ Lim (doAct l a).1 (N + 1) := by
  unfold doAct
  split
  · simp only
    rw [addS_fst]
    split
    · exact ⟨ok, h.more (Nat.le_succ _)⟩
    · exact ⟨ok_put ok ⟨fa.k, fa.p, ⟨by show (-9223372036854775808 : Int) ≤ 1; decide, by show (1 : Int) ≤ 9223372036854775807; decide⟩⟩, lim_put ok h ⟨by show (1 : Int) ≤ 1; decide, by show (1 : Int) ≤ N + 1; omega⟩⟩
  · simp only
    cases hk : isAt l a.k
    · rw [refS_no hk]; exact ⟨ok, h.more (Nat.le_succ _)⟩
    · rw [refS_yes hk]
      have := get_lim h hk
      exact ⟨ok_put ok (fit_wR ok _ ⟨by omega, by omega⟩), lim_put ok h ⟨by show 1 ≤ (getS l a.k).refs + 1; omega, by show (getS l a.k).refs + 1 ≤ _; omega⟩⟩
  · cases hk : isAt l a.k
    · rw [unrefS_no hk]; exact ⟨ok, h.more (Nat.le_succ _)⟩
    · have := get_lim h hk
      by_cases h2 : (getS l a.k).refs - 1 > 0
      · rw [unrefS_more hk h2]
        exact ⟨ok_put ok (fit_wR ok _ ⟨by omega, by omega⟩), lim_put ok h ⟨by show 1 ≤ (getS l a.k).refs - 1; omega, by show (getS l a.k).refs - 1 ≤ _; omega⟩⟩
      · rw [unrefS_last hk h2]
        exact ⟨ok_erase ok _, lim_erase h _⟩
  · simp only
    cases hk : isAt l a.k
    · rw [moveS_no hk]; exact ⟨ok, h.more (Nat.le_succ _)⟩
    · rw [moveS_yes hk]
      have := get_lim h hk
      have hf := getS_fit ok a.k
      exact ⟨ok_put ok ⟨hf.key, fa.p, hf.refs⟩, lim_put ok h ⟨this.1, by have := this.2; show (getS l a.k).refs ≤ _; omega⟩⟩
theorem act_add {l : List Ch} {a : ActD} (h : a.kind.toNat % 4 = 0) : doAct l a = ((addS l a.k a.p).1, false, (addS l a.k a.p).2) := by unfold doAct; rw [h]; rfl
theorem act_ref {l : List Ch} {a : ActD} (h : a.kind.toNat % 4 = 1) : doAct l a = ((refS l a.k).1, false, (refS l a.k).2) := by unfold doAct; rw [h]; rfl
theorem act_unref {l : List Ch} {a : ActD} (h : a.kind.toNat % 4 = 2) : doAct l a = unrefS l a.k := by unfold doAct; rw [h]; rfl
theorem act_move {l : List Ch} {a : ActD} (h : a.kind.toNat % 4 = 3) : doAct l a = ((moveS l a.k a.p).1, false, (moveS l a.k a.p).2) := by unfold doAct; rw [h]; rfl
def actV (x : List Ch × Bool × Nat) : Value := .tuple #[.bool x.2.1, errS x.2.2]
section
variable {B : Nat} {w0 w : World} {Ps : List Asn} {p : Nat} {l : List Ch} {N : Nat}
set_option maxRecDepth 10000 in
set_option maxHeartbeats 6400000 in
theorem does_any (H : Own.St B w0 w (AS p l :: Ps)) (ok : Ok l) (lim : Lim l N) (hN : N ≤ 100000) (a : ActD) (fa : FitA a) : Calls Try.prog 34 #[ptr p, .agg (actC a).toArray] w fun e w' => e = .returned (actV (doAct l a)) ∧ Own.St B w0 w' (AS p (doAct l a).1 :: Ps) := by
  obtain ⟨cs, hcs⟩ : ∃ x, x = actC a := ⟨_, rfl⟩
  obtain ⟨kc, hkc⟩ : ∃ x, x = kC a.k := ⟨_, rfl⟩
  have KL : Hid (kc.length = 33) := by show _ = _; rw [hkc]; exact kC_len fa.k
  obtain ⟨qs, hqs⟩ : ∃ x, x = a.p.seg := ⟨_, rfl⟩
  obtain ⟨qg, hqg⟩ : ∃ x, x = a.p.page := ⟨_, rfl⟩
  obtain ⟨qn, hqn⟩ : ∃ x, x = a.p.pages := ⟨_, rfl⟩
  obtain ⟨kd, hkd⟩ : ∃ x, x = a.kind.toNat := ⟨_, rfl⟩
  obtain ⟨r, hr⟩ : ∃ r, r = kd % 4 := ⟨_, rfl⟩
  have hr4 : r < 4 := by omega
  have hri : (kd : Int) % 4 = (r : Int) := by omega
  have hkb : kd < 256 := by rw [hkd]; exact a.kind.toNat_lt
  have hbox := (H.boxV 82 cs)
  obtain ⟨X, hX⟩ : ∃ X, X = doAct l a := ⟨_, rfl⟩
  rw [← hX]
  have HX := Lib.hid hX
  obtain ⟨b, hb⟩ : ∃ b, b = w.heap.size := ⟨_, rfl⟩
  obtain ⟨W1, hW1⟩ : ∃ W, W = w.alloc (.cells cs.toArray 82) := ⟨_, rfl⟩
  rw [← hb, ← hW1] at hbox
  have H1 := Lib.hid hbox
  have c0 := (hbox.cellV 0 rfl 0 (v := .int .u8 (kd : Int)) (by rw [hcs, hkd]; rfl)).1
  have d0 := (hbox.cellV 0 rfl 34 (v := .int .i64 qs) (by rw [hcs, hqs]; exact actC_pl fa 0)).1
  have d1 := (hbox.cellV 0 rfl 35 (v := .int .i64 qg) (by rw [hcs, hqg]; exact actC_pl fa 1)).1
  have d2 := (hbox.cellV 0 rfl 36 (v := .int .i64 qn) (by rw [hcs, hqn]; exact actC_pl fa 2)).1
  have RK : Hid (W1.rangeAt b 1 kc) := fun j v hv => (hbox.cellV 0 rfl (1 + j) (by rw [hcs]; exact actC_key j v (by rw [← hkc]; exact hv))).1
  have E1 := hW1.symm
  have EB := hb.symm
  have HR := Lib.hid hr
  have HKD := Lib.hid hkd
  have C0 : Hid (r = 0 → Calls Try.prog 46 #[ptr p, .agg kc.toArray, .agg #[.int .i64 qs, .int .i64 qg, .int .i64 qn]] W1 fun e w' => e = .returned (errS X.2.2) ∧ Own.St B w0 w' (AS p X.1 :: Ps)) := by
    intro h
    rw [HX.out, act_add (by rw [← HKD.out, ← HR.out]; exact h), hkc, hqs, hqg, hqn]
    refine ((add_any (q := a.p) hbox.swap2 ok (by have := lim.len; omega) fa.k fa.p)).mono ?_
    rintro e w' ⟨rfl, h'⟩
    exact ⟨rfl, h'.drop2⟩
  have C1 : Hid (r = 1 → Calls Try.prog 47 #[ptr p, .agg kc.toArray] W1 fun e w' => e = .returned (errS X.2.2) ∧ Own.St B w0 w' (AS p X.1 :: Ps)) := by
    intro h
    rw [HX.out, act_ref (by rw [← HKD.out, ← HR.out]; exact h), hkc]
    refine ((ref_any hbox.swap2 ok (by have := lim.len; omega) fa.k (fun hk => by have := get_lim lim hk; omega))).mono ?_
    rintro e w' ⟨rfl, h'⟩
    exact ⟨rfl, h'.drop2⟩
  have C2 : Hid (r = 2 → Calls Try.prog 48 #[ptr p, .agg kc.toArray] W1 fun e w' => e = .returned (.tuple #[.bool X.2.1, errS X.2.2]) ∧ Own.St B w0 w' (AS p X.1 :: Ps)) := by
    intro h
    rw [HX.out, act_unref (by rw [← HKD.out, ← HR.out]; exact h), hkc]
    refine ((unref_any hbox.swap2 ok (by have := lim.len; omega) fa.k (fun hk => (get_lim lim hk).1))).mono ?_
    rintro e w' ⟨rfl, h'⟩
    exact ⟨rfl, h'.drop2⟩
  have C3 : Hid (r = 3 → Calls Try.prog 56 #[ptr p, .agg kc.toArray, .agg #[.int .i64 qs, .int .i64 qg, .int .i64 qn]] W1 fun e w' => e = .returned (errS X.2.2) ∧ Own.St B w0 w' (AS p X.1 :: Ps)) := by
    intro h
    rw [HX.out, act_move (by rw [← HKD.out, ← HR.out]; exact h), hkc, hqs, hqg, hqn]
    refine ((move_any (q := a.p) hbox.swap2 ok (by have := lim.len; omega) fa.k fa.p)).mono ?_
    rintro e w' ⟨rfl, h'⟩
    exact ⟨rfl, h'.drop2⟩
  have HB0 : Hid (r ≠ 2 → X.2.1 = false) := by
    intro h
    rw [HX.out]
    rcases (show r = 0 ∨ r = 1 ∨ r = 3 by omega) with g | g | g
    · rw [act_add (by rw [← HKD.out, ← HR.out]; exact g)]
    · rw [act_ref (by rw [← HKD.out, ← HR.out]; exact g)]
    · rw [act_move (by rw [← HKD.out, ← HR.out]; exact g)]
  rw [← hcs]
  clear hcs hkc hqs hqg hqn hbox hb hW1 hX hr hkd H ok lim fa
  rcases (show r = 0 ∨ r = 1 ∨ r = 2 ∨ r = 3 by omega) with h | h | h | h
  · have CX := Lib.hid (C0.out h)
    clear C0 C1 C2 C3 HR
    subst h
    clear hr4
    go_enter Try.func34, Try.ntmps34
    go_wp2_with (refine wpList_val rfl (Rec.load_key kc KL.out rfl _ (b := b) (k := 1) RK.out rfl) ?_)
    refine CX.out.mono ?_
    rintro e w2 ⟨rfl, h⟩
    have H2 := Lib.hid h
    clear h CX
    go_wp2_with (fail)
    go_ret2
    exact ⟨by unfold actV; rw [HB0.out (by decide)]; rfl, H2.out⟩
  · have CX := Lib.hid (C1.out h)
    clear C0 C1 C2 C3 HR
    subst h
    clear hr4
    go_enter Try.func34, Try.ntmps34
    go_wp2_with (refine wpList_val rfl (Rec.load_key kc KL.out rfl _ (b := b) (k := 1) RK.out rfl) ?_)
    refine CX.out.mono ?_
    rintro e w2 ⟨rfl, h⟩
    have H2 := Lib.hid h
    clear h CX
    go_wp2_with (fail)
    go_ret2
    exact ⟨by unfold actV; rw [HB0.out (by decide)]; rfl, H2.out⟩
  · have CX := Lib.hid (C2.out h)
    clear C0 C1 C2 C3 HR
    subst h
    clear hr4
    go_enter Try.func34, Try.ntmps34
    go_wp2_with (refine wpList_val rfl (Rec.load_key kc KL.out rfl _ (b := b) (k := 1) RK.out rfl) ?_)
    refine CX.out.mono ?_
    rintro e w2 ⟨rfl, h⟩
    have H2 := Lib.hid h
    clear h CX
    go_wp2_with (fail)
    go_ret2
    exact ⟨rfl, H2.out⟩
  · have CX := Lib.hid (C3.out h)
    clear C0 C1 C2 C3 HR
    subst h
    clear hr4
    go_enter Try.func34, Try.ntmps34
    go_wp2_with (refine wpList_val rfl (Rec.load_key kc KL.out rfl _ (b := b) (k := 1) RK.out rfl) ?_)
    refine CX.out.mono ?_
    rintro e w2 ⟨rfl, h⟩
    have H2 := Lib.hid h
    clear h CX
    go_wp2_with (fail)
    go_ret2
    exact ⟨by unfold actV; rw [HB0.out (by decide)]; rfl, H2.out⟩
end
theorem few_any (ao : Option Addr) (n cap : Nat) (hn : n ≤ cap) (hc : cap ≤ maxLen) (w : World) :
    Calls Try.prog 33 #[.slice ao n cap] w fun e w' => e = .returned (.slice ao (min n 200) cap) ∧ w = w' := by
  unfold maxLen at hc
  obtain ⟨k, hk⟩ : ∃ k, k = min n 200 := ⟨_, rfl⟩
  have hmin : ∀ wx, (Builtin.min_ #[3, 3] 3 #[.int .i64 (n : Int), .int .i64 200]).run Try.prog wx = .ok (.int .i64 (k : Int)) wx := by
    intro wx
    rw [show (k : Int) = min (n : Int) 200 by omega]
    simp [Builtin.min_, Builtin.min2, go_sem]
    try omega
  have hkn : k ≤ n := by omega
  have hkc : k ≤ cap := by omega
  rw [← hk]
  clear hk
  go_enter Try.func33, Try.ntmps33
  go_wp2
  go_ret
  exact ⟨rfl, rfl⟩
end Sto
end Go.Proofs.Ytepbdjgfaljbgaa

end
section
namespace Go.Proofs.Ytepbdjgfaljbgaa
open Go.RowKit Go.Own Go.Maps
namespace Sto
open Go.StoM Byt
/-- returns true, and old memory is as it was -/
def RetYes (w : World) (e : Ending) (w' : World) : Prop := e = .returned (.bool true) ∧ Below w.heap.size w w'
def xK : Ky := ⟨RecM.zsum, 3⟩
def xP : Pl := ⟨1, 0, 0⟩
theorem xK_fit : FitK xK := ⟨by simp [xK, RecM.zsum], by decide⟩
theorem xP_fit : FitP xP := ⟨by decide, by decide, by decide⟩
def x1 : List Ch := [⟨xK, xP, 1⟩]
def x2 : List Ch := [⟨xK, xP, 2⟩]
theorem x_ok (n : Int) (hn : i64S n) : Ok [⟨xK, xP, n⟩] := ⟨List.pairwise_singleton _ _, fun c hc => by rw [List.mem_singleton.1 hc]; exact ⟨xK_fit, xP_fit, hn⟩⟩
theorem built_xK : Try.prog.built 36 [(1, .int .u32 3)] = some (kC xK).toArray := by kernel_rfl
set_option maxRecDepth 10000 in
set_option maxHeartbeats 6400000 in
theorem shown_any (w : World) : Calls Try.prog 28 #[] w (RetYes w) := by
  obtain ⟨kc, hkc⟩ : ∃ c, c = kC xK := ⟨_, rfl⟩
  have KL : Hid (kc.length = 33) := by show _ = _; rw [hkc]; exact kC_len xK_fit
  have KO : Hid (∀ u ∈ kc, u.oneCell' = true) := by show ∀ u ∈ kc, _; rw [hkc]; exact kC_one _
  have KB : Hid (Try.prog.built 36 [(1, .int .u32 3)] = some kc.toArray) := by rw [hkc]; exact built_xK
  have CA : Hid (∀ {B : Nat} {Qs : List Asn} {p : Nat} (wx : World), Own.St B w wx (AS p [] :: Qs) → Calls Try.prog 46 #[ptr p, .agg kc.toArray, .agg #[.int .i64 1, .int .i64 0, .int .i64 0]] wx fun e w' => e = .returned (.int .i64 0) ∧ Own.St B w w' (AS p x1 :: Qs)) := by
    rw [hkc]
    intro B Qs p wx h
    exact add_any (q := xP) h ok_nil (by decide) xK_fit xP_fit
  have CR : Hid (∀ {B : Nat} {Qs : List Asn} {p : Nat} (wx : World), Own.St B w wx (AS p x1 :: Qs) → Calls Try.prog 47 #[ptr p, .agg kc.toArray] wx fun e w' => e = .returned (.int .i64 0) ∧ Own.St B w w' (AS p x2 :: Qs)) := by
    rw [hkc]
    intro B Qs p wx h
    have e : refS x1 xK = (x2, 0) := by kernel_rfl
    have g : (getS x1 xK).refs = 1 := by
      have : isAt x1 xK = true := by kernel_rfl
      rw [getS_at this]
      rfl
    have := ref_any h (x_ok 1 (by decide)) (by decide) xK_fit (fun _ => by rw [g]; decide)
    rw [e] at this
    exact this
  have CU1 : Hid (∀ {B : Nat} {Qs : List Asn} {p : Nat} (wx : World), Own.St B w wx (AS p x2 :: Qs) → Calls Try.prog 48 #[ptr p, .agg kc.toArray] wx fun e w' => e = .returned (.tuple #[.bool false, .int .i64 0]) ∧ Own.St B w w' (AS p x1 :: Qs)) := by
    rw [hkc]
    intro B Qs p wx h
    have e : unrefS x2 xK = (x1, false, 0) := by kernel_rfl
    have g : (getS x2 xK).refs = 2 := by
      have : isAt x2 xK = true := by kernel_rfl
      rw [getS_at this]
      rfl
    have := unref_any h (x_ok 2 (by decide)) (by decide) xK_fit (fun _ => by rw [g]; decide)
    rw [e] at this
    exact this
  have CU2 : Hid (∀ {B : Nat} {Qs : List Asn} {p : Nat} (wx : World), Own.St B w wx (AS p x1 :: Qs) → Calls Try.prog 48 #[ptr p, .agg kc.toArray] wx fun e w' => e = .returned (.tuple #[.bool true, .int .i64 0]) ∧ Own.St B w w' (AS p [] :: Qs)) := by
    rw [hkc]
    intro B Qs p wx h
    have e : unrefS x1 xK = ([], true, 0) := by kernel_rfl
    have g : (getS x1 xK).refs = 1 := by
      have : isAt x1 xK = true := by kernel_rfl
      rw [getS_at this]
      rfl
    have := unref_any h (x_ok 1 (by decide)) (by decide) xK_fit (fun _ => by rw [g]; decide)
    rw [e] at this
    exact this
  have CU3 : Hid (∀ {B : Nat} {Qs : List Asn} {p : Nat} (wx : World), Own.St B w wx (AS p [] :: Qs) → Calls Try.prog 48 #[ptr p, .agg kc.toArray] wx fun e w' => e = .returned (.tuple #[.bool false, .int .i64 2]) ∧ Own.St B w w' (AS p [] :: Qs)) := by
    rw [hkc]
    intro B Qs p wx h
    exact unref_any h ok_nil (by decide) xK_fit (fun h => by cases h)
  have CN := Lib.hid (new_any (Own.St.start w))
  clear hkc
  go_enter Try.func28, Try.ntmps28
  go_wp2_with (fail)
  refine CN.out.mono ?_
  rintro e w1 ⟨p, rfl, h⟩
  have H1 := Lib.hid h
  clear h CN
  go_wp2_with (first
    | (refine Own.wpList_built rfl 36 #[(1, .const (.int .u32 3))] rfl kc.toArray ?_ ?_; · (simp only [List.map_toArray, List.map_cons, List.map_nil, List.toList_toArray]; exact KB.out))
    | (refine wpList_box2 boxy_key rfl rfl rfl (.tmp 2) (.tmp 10) rfl rfl kc (fun _ => rfl) (fun _ => rfl) KL.out KO.out H1.out ?_; intro b2 w2 h; have H2 := Lib.hid h; clear h)
    | (refine wpList_val rfl (Rec.load_key kc KL.out rfl _ (b := b2) (k := 0) (H2.out.boxRange 0 rfl) rfl) ?_))
  refine (CA.out _ H2.out.swap2).mono ?_
  rintro e w3 ⟨rfl, h⟩
  have H3 := Lib.hid h
  clear h CA H2 H1
  go_wp2_with (refine wpList_val rfl (Rec.load_key kc KL.out rfl _ (b := b2) (k := 0) (H3.out.boxRange 1 rfl) rfl) ?_)
  refine (CR.out _ H3.out).mono ?_
  rintro e w4 ⟨rfl, h⟩
  have H4 := Lib.hid h
  clear h CR H3
  go_wp2_with (refine wpList_val rfl (Rec.load_key kc KL.out rfl _ (b := b2) (k := 0) (H4.out.boxRange 1 rfl) rfl) ?_)
  refine (CU1.out _ H4.out).mono ?_
  rintro e w5 ⟨rfl, h⟩
  have H5 := Lib.hid h
  clear h CU1 H4
  go_wp2_with (refine wpList_val rfl (Rec.load_key kc KL.out rfl _ (b := b2) (k := 0) (H5.out.boxRange 1 rfl) rfl) ?_)
  refine (CU2.out _ H5.out).mono ?_
  rintro e w6 ⟨rfl, h⟩
  have H6 := Lib.hid h
  clear h CU2 H5
  go_wp2_with (refine wpList_val rfl (Rec.load_key kc KL.out rfl _ (b := b2) (k := 0) (H6.out.boxRange 1 rfl) rfl) ?_)
  refine (CU3.out _ H6.out).mono ?_
  rintro e w7 ⟨rfl, h⟩
  have H7 := Lib.hid h
  clear h CU3 H6
  go_wp2_with (fail)
  go_ret
  exact ⟨rfl, H7.out.below⟩
end Sto
end Go.Proofs.Ytepbdjgfaljbgaa

end
section
namespace Go.Proofs.Ytepbdjgfaljbgaa
open Go.RowKit Go.Own Go.Maps
namespace Sto
open Go.StoM Byt
abbrev inAct : InT ActD := inE actC FitA
/-- one chunk of a row of one's own -/
theorem row_range {B : Nat} {w0 w : World} {Ps : List Asn} (H : Own.St B w0 w Ps) (j : Nat) {g n cap : Nat} {l : List Ch} (hj : Ps[j]? = some (ARow 74 37 (.slice (some ⟨g, 0, none⟩) n cap) n (l.flatMap chC))) (hf : ∀ c ∈ l, Fit c) (hl : l.length = n) {i : Nat} {c : Ch} (hi : l[i]? = some c) :
    w.rangeAt g (i * 37) (chC c) := by
  have hil := (List.getElem?_eq_some_iff.1 hi).1
  intro k u hu
  have hk : k < 37 := by rw [← chC_len (hf c (List.mem_of_getElem? hi)).key]; exact (List.getElem?_eq_some_iff.1 hu).1
  obtain ⟨g', hg', ⟨u', h1, h2⟩, _⟩ := H.rowAt j hj (i * 37 + k) (by omega)
  cases hg'
  rw [flat_at chC 37 l (fun c hc => chC_len (hf c hc).key) i c hi k hk, hu] at h1
  cases h1
  exact h2
end Sto
end Go.Proofs.Ytepbdjgfaljbgaa

end
