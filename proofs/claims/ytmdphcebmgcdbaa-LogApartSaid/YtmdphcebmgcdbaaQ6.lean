/- Merged: LaxG LaxH Slo LawLogE LogZ LawLogI LawLogJ LawLogK LawLogF LawLogG LawLogH FlaR FlaRg -/
import Derived.Great.Walk
import Derived.Carry
import Derived.Test.YtmdphcebmgcdbaaQ2
import Derived.Test.YtmdphcebmgcdbaaQ3
import Derived.Test.YtmdphcebmgcdbaaQ4
import Derived.Test.YtmdphcebmgcdbaaQ5
set_option linter.unusedVariables false
section
namespace Go.Own
open Go.RowKit

def updL (L : Nat → Bool) (i : Nat) : Nat → Bool := fun j => if j = i then true else L j
section
variable {P : Program} {ops : Array Oper} {md : Region.Mode} {CL : (Nat → Bool) → World → Prop}
/-- what may be taken for granted when operation i comes up -/
structure Comes (ops : Array Oper) (md : Region.Mode) (i : Nat) (o : Oper) (L : Nat → Bool) : Prop where
  not : L i = false
  closed : ∀ (j : Nat) (oj : Oper), ops[j]? = some oj → L j = true → ∀ e ∈ oj.after, Region.binds md e = true → L e.on = true
  ready : ∀ e ∈ o.after, Region.binds md e = true → L e.on = true
inductive StepG (P : Program) (ops : Array Oper) (md : Region.Mode) (CL : (Nat → Bool) → World → Prop) (i : Nat) (o : Oper) (a : Act) : Act → Prop
  | skip (hw : Region.wanted o (yielded ops a.tmps) = false) (hq : ∀ L w, CL L w → Comes ops md i o L → CL (updL L i) w) : StepG P ops md CL i o a (a.put o.dst undef)
  | val (v : Value) (hw : Region.wanted o (yielded ops a.tmps) = true)
      (h : ∀ L a1 w, CL L w → Comes ops md i o L → (∀ t ∈ o.looksAt ops, a1.tmps.getD t undef = a.tmps.getD t undef) → ∀ (K : Act → World → Prop) (Q : Exit → Act → World → Prop), (∀ w', CL (updL L i) w' → K (a1.put o.dst v) w') → o.wp P a1 w K Q) : StepG P ops md CL i o a (a.put o.dst v)

structure InvG (md : Region.Mode) (ops : Array Oper) (CL : (Nat → Bool) → World → Prop) (a0 : Act) (S : Nat → Act) (listed : Array Bool) (a1 : Act) (w1 : World) : Prop where
  world : CL (fun j => listed.getD j false) w1
  defers : a1.defers = a0.defers
  size : a1.tmps.size = a0.tmps.size
  lsize : listed.size = ops.size
  closed : ∀ (j : Nat) (oj : Oper), ops[j]? = some oj → listed.getD j false = true → ∀ e ∈ oj.after, Region.binds md e = true → listed.getD e.on false = true
  done : ∀ (j : Nat) (oj : Oper) (d : Tmp), ops[j]? = some oj → listed.getD j false = true → oj.dst = some d → a1.tmps.getD d undef = (S (j + 1)).tmps.getD d undef
  rest : ∀ t, (∀ (j : Nat) (oj : Oper), ops[j]? = some oj → listed.getD j false = true → oj.dst ≠ some t) → a1.tmps.getD t undef = a0.tmps.getD t undef

theorem StepG.put {i : Nat} {o : Oper} {a a' : Act} (h : StepG P ops md CL i o a a') : ∃ v, a' = a.put o.dst v := by
  cases h with
  | skip => exact ⟨_, rfl⟩
  | val v => exact ⟨v, rfl⟩
theorem sizesG {a0 : Act} {S : Nat → Act} (hS0 : S 0 = a0) (hst : ∀ (k : Nat) (o : Oper), ops[k]? = some o → StepG P ops md CL k o (S k) (S (k + 1))) :
    ∀ k, k ≤ ops.size → (S k).tmps.size = a0.tmps.size ∧ (S k).defers = a0.defers
  | 0, _ => by rw [hS0]; exact ⟨rfl, rfl⟩
  | k + 1, hk => by
    have h := sizesG hS0 hst k (by omega)
    obtain ⟨v, g⟩ := (hst k ops[k] (Array.getElem?_eq_getElem (by omega))).put
    rw [g]
    exact ⟨(put_size _ _ _).trans h.1, (put_defers _ _ _).trans h.2⟩
theorem otherG {a0 : Act} {S : Nat → Act} (hS0 : S 0 = a0) (hst : ∀ (k : Nat) (o : Oper), ops[k]? = some o → StepG P ops md CL k o (S k) (S (k + 1)))
    (hin : ∀ (k : Nat) (o : Oper) (d : Tmp), ops[k]? = some o → o.dst = some d → d < a0.tmps.size) {t : Tmp} (m : Nat) :
    ∀ q, m + q ≤ ops.size → (∀ j oj, m ≤ j → j < m + q → ops[j]? = some oj → oj.dst ≠ some t) → (S (m + q)).tmps.getD t undef = (S m).tmps.getD t undef
  | 0, _, _ => rfl
  | q + 1, hq, hno => by
    have ih := otherG hS0 hst hin (t := t) m q (by omega) (fun j oj h1 h2 => hno j oj h1 (by omega))
    have hk : ops[m + q]? = some ops[m + q] := Array.getElem?_eq_getElem (by omega)
    have hs := sizesG hS0 hst (m + q) (by omega)
    obtain ⟨v, g⟩ := (hst (m + q) _ hk).put
    refine Eq.trans ?_ ih
    show (S (m + q + 1)).tmps.getD t undef = _
    rw [g]
    have hd := hno (m + q) _ (by omega) (by omega) hk
    cases hdd : (ops[m + q]).dst with
    | none => rfl
    | some d => rw [put_getD _ d t v (by rw [hs.1]; exact hin _ _ d hk hdd), if_neg (fun e => hd (by rw [hdd, e]))]

theorem wpAny_G {Q' : Exit → Act → World → Prop} {a0 : Act} {S : Nat → Act} (hS0 : S 0 = a0)
    (hst : ∀ (k : Nat) (o : Oper), ops[k]? = some o → StepG P ops md CL k o (S k) (S (k + 1)))
    (hin : ∀ (k : Nat) (o : Oper) (d : Tmp), ops[k]? = some o → o.dst = some d → d < a0.tmps.size)
    (hone : ∀ (j k : Nat) (x y : Oper) (d : Tmp), ops[j]? = some x → ops[k]? = some y → x.dst = some d → y.dst = some d → j = k)
    (hlex : ∀ (i : Nat) (oi : Oper), ops[i]? = some oi → (∀ e ∈ oi.after, Region.binds md e = true → e.on < i) ∧ ∀ j oj, i < j → ops[j]? = some oj → (∃ e ∈ oj.after, Region.binds md e = true ∧ e.on = i) ∨ oi.apart ops oj = true)
    (hfin : ∀ (a1 : Act) (w1 : World) (L : Nat → Bool), CL L w1 → (∀ i, i < ops.size → L i = true) → a1 = S ops.size → Q' .normal a1 w1) :
    ∀ (fuel : Nat) (listed : Array Bool) (a1 : Act) (w1 : World), (∃ s, (List.range ops.size).filter (fun i => !listed.getD i true) = s ∧ s.length = fuel) → InvG md ops CL a0 S listed a1 w1 → wpAny P md ops Q' fuel listed a1 w1 := by
  have hready : ∀ listed : Array Bool, listed.size = ops.size → Region.ready md ops listed = [] → ∀ i, i < ops.size → listed.getD i true = true := by
    intro listed hls hr i
    induction i using Nat.strongRecOn with
    | _ i ih =>
      intro hi
      rcases hb : listed.getD i true with _ | _
      · exfalso
        have : i ∈ Region.ready md ops listed := by
          refine mem_ready.2 ⟨hb, ops[i], Array.getElem?_eq_getElem hi, fun e he hbd => ?_⟩
          have h1 := (hlex i _ (Array.getElem?_eq_getElem hi)).1 e he hbd
          have h2 := ih e.on h1 (by omega)
          have h3 : e.on < listed.size := by omega
          simpa [h3] using h2
        rw [hr] at this
        cases this
      · rfl
  have hend : ∀ (fuel : Nat) (listed : Array Bool) (a1 : Act) (w1 : World), InvG md ops CL a0 S listed a1 w1 → (∀ i, i < ops.size → listed.getD i true = true) → wpAny P md ops Q' fuel listed a1 w1 := by
    intro fuel listed a1 w1 hI hall
    have hsz := sizesG hS0 hst ops.size (Nat.le_refl _)
    have hallf : ∀ i, i < ops.size → listed.getD i false = true := by
      intro i hi
      have h1 := hall i hi
      have h2 : i < listed.size := by rw [hI.lsize]; exact hi
      simpa [h2] using h1
    have hnr : Region.ready md ops listed = [] := by
      apply List.eq_nil_iff_forall_not_mem.2
      intro i hi
      obtain ⟨h0, o, ho, _⟩ := mem_ready.1 hi
      have := hall i (Array.getElem?_eq_some_iff.1 ho).1
      rw [this] at h0; cases h0
    refine wpAny_done hnr (hfin a1 w1 _ hI.world hallf ?_) fuel
    have hslot : ∀ t, a1.tmps.getD t undef = (S ops.size).tmps.getD t undef := by
      intro t
      by_cases hw : ∃ (j : Nat) (oj : Oper), ops[j]? = some oj ∧ oj.dst = some t
      · obtain ⟨j, oj, hj, hd⟩ := hw
        have hjl := (Array.getElem?_eq_some_iff.1 hj).1
        have h1 := hI.done j oj t hj (hallf j hjl) hd
        have h2 := otherG hS0 hst hin (t := t) (j + 1) (ops.size - (j + 1)) (by omega) (fun i oi h1 h2 hi hdi => by
          have := hone i j oi oj t hi hj hdi hd; omega)
        rw [show j + 1 + (ops.size - (j + 1)) = ops.size by omega] at h2
        exact h1.trans h2.symm
      · have h1 := hI.rest t (fun j oj hj hl hd => hw ⟨j, oj, hj, hd⟩)
        have h2 := otherG hS0 hst hin (t := t) 0 ops.size (by omega) (fun j oj _ h2 hj hd => hw ⟨j, oj, hj, hd⟩)
        rw [Nat.zero_add, hS0] at h2
        exact h1.trans h2.symm
    have hts : a1.tmps = (S ops.size).tmps := by
      apply Array.ext
      · rw [hI.size, hsz.1]
      · intro i h1 h2
        have := hslot i
        simpa [Array.getD, h1, h2] using this
    have hds : a1.defers = (S ops.size).defers := hI.defers.trans hsz.2.symm
    cases a1
    cases hS : S ops.size
    rw [hS] at hts hds
    simp only at hts hds
    subst hts hds
    rfl
  intro fuel
  induction fuel with
  | zero =>
    rintro listed a1 w1 ⟨s, hs, hlen⟩ hI
    refine hend 0 listed a1 w1 hI (fun i hi => ?_)
    have hnil : s = [] := List.eq_nil_of_length_eq_zero hlen
    subst hnil
    have := List.filter_eq_nil_iff.1 hs i (List.mem_range.2 (by omega))
    simpa using this
  | succ fuel ih =>
    rintro listed a1 w1 ⟨s, hs, hlen⟩ hI
    by_cases hdone : ∀ i, i < ops.size → listed.getD i true = true
    · exact hend (fuel + 1) listed a1 w1 hI hdone
    refine ⟨fun h0 => absurd (fun i hi => hready listed hI.lsize h0 i (by omega)) hdone, fun i hi => ?_⟩
    obtain ⟨hun, oi, hoi, hall⟩ := mem_ready.1 hi
    have hil := (Array.getElem?_eq_some_iff.1 hoi).1
    have hill : i < listed.size := by rw [hI.lsize]; exact hil
    have hunf : listed.getD i false = false := by simpa [hill] using hun
    have hcount : ∃ s', (List.range ops.size).filter (fun j => !(listed.setIfInBounds i true).getD j true) = s' ∧ s'.length = fuel := by
      refine ⟨_, rfl, ?_⟩
      have hn : (List.range ops.size).Nodup := List.nodup_range
      have e : (List.range ops.size).filter (fun j => !(listed.setIfInBounds i true).getD j true) = ((List.range ops.size).filter fun j => !listed.getD j true).erase i := by
        rw [List.Nodup.erase_eq_filter (List.Pairwise.filter _ hn), List.filter_filter]
        apply List.filter_congr
        intro j hj
        by_cases hji : j = i
        · subst hji; simp [hill]
        · rw [getD_set_ne true (Ne.symm hji)]; simp [hji]
      rw [e, List.length_erase_of_mem (List.mem_filter.2 ⟨List.mem_range.2 hil, by simp only [hun]; rfl⟩), hs, hlen]
      rfl
    have hlook : ∀ t ∈ oi.looksAt ops, a1.tmps.getD t undef = (S i).tmps.getD t undef := by
      intro t ht
      have hback : (∀ (j : Nat) (oj : Oper), ops[j]? = some oj → oj.dst = some t → i ≤ j) → (∀ (j : Nat) (oj : Oper), ops[j]? = some oj → oj.dst = some t → listed.getD j false = false) → a1.tmps.getD t undef = (S i).tmps.getD t undef := by
        intro h1 h2
        have h3 := otherG hS0 hst hin (t := t) 0 i (by omega) (fun j oj _ hj ho hd => by have := h1 j oj ho hd; omega)
        rw [Nat.zero_add, hS0] at h3
        refine Eq.trans (hI.rest t (fun j oj hj hl hd => ?_)) h3.symm
        rw [h2 j oj hj hd] at hl; cases hl
      by_cases hw : ∃ (j : Nat) (oj : Oper), ops[j]? = some oj ∧ oj.dst = some t
      · obtain ⟨j, oj, hj, hd⟩ := hw
        have huniq : ∀ (j' : Nat) (oj' : Oper), ops[j']? = some oj' → oj'.dst = some t → j' = j := fun j' oj' h1 h2 => hone j' j oj' oj t h1 hj h2 hd
        rcases Nat.lt_trichotomy j i with hji | hji | hji
        · rcases (hlex j oj hj).2 i oi hji hoi with ⟨e, he, hb, heq⟩ | hap
          · have hl : listed.getD j false = true := by rw [← heq]; exact hall e he hb
            have h1 := hI.done j oj t hj hl hd
            have h2 := otherG hS0 hst hin (t := t) (j + 1) (i - (j + 1)) (by omega) (fun j' oj' h1 _ h3 h4 => by have := huniq j' oj' h3 h4; omega)
            rw [show j + 1 + (i - (j + 1)) = i by omega] at h2
            exact h1.trans h2.symm
          · exact absurd ht ((Oper.apart_spec hap).1 t hd)
        · subst hji
          refine hback (fun j' oj' h1 h2 => by have := huniq j' oj' h1 h2; omega) (fun j' oj' h1 h2 => by rw [huniq j' oj' h1 h2]; exact hunf)
        · rcases (hlex i oi hoi).2 j oj hji hj with ⟨e, he, hb, heq⟩ | hap
          · refine hback (fun j' oj' h1 h2 => by have := huniq j' oj' h1 h2; omega) (fun j' oj' h1 h2 => ?_)
            rw [huniq j' oj' h1 h2]
            rcases hlj : listed.getD j false with _ | _
            · rfl
            · have := hI.closed j oj hj hlj e he hb
              rw [heq, hunf] at this; cases this
          · exact absurd ht ((Oper.apart_spec hap).2.2 t hd)
      · exact hback (fun j oj h1 h2 => absurd ⟨j, oj, h1, h2⟩ hw) (fun j oj h1 h2 => absurd ⟨j, oj, h1, h2⟩ hw)
    have hsz := sizesG hS0 hst i (by omega)
    have hsame : a1.tmps.size = (S i).tmps.size := hI.size.trans hsz.1.symm
    have hupd : (fun j => (listed.setIfInBounds i true).getD j false) = updL (fun j => listed.getD j false) i := by
      funext j
      unfold updL
      by_cases hji : j = i
      · subst hji; simp [hill]
      · rw [getD_set_ne false (Ne.symm hji), if_neg hji]
    have hcomes : Comes ops md i oi (fun j => listed.getD j false) := ⟨hunf, hI.closed, hall⟩
    have hnext : ∀ (v : Value) (w' : World), S (i + 1) = (S i).put oi.dst v → CL (updL (fun j => listed.getD j false) i) w' → InvG md ops CL a0 S (listed.setIfInBounds i true) (a1.put oi.dst v) w' := by
      intro v w' hv hb
      have hget : ∀ t, oi.dst ≠ some t → (a1.put oi.dst v).tmps.getD t undef = a1.tmps.getD t undef := by
        intro t ht
        cases hd : oi.dst with
        | none => rfl
        | some d => rw [put_getD a1 d t v (by rw [hI.size]; exact hin i oi d hoi hd), if_neg (fun e => ht (by rw [hd, e]))]
      have hlist : ∀ j, (listed.setIfInBounds i true).getD j false = true → j = i ∨ listed.getD j false = true := by
        intro j hj
        by_cases hji : j = i
        · exact .inl hji
        · rw [getD_set_ne false (Ne.symm hji)] at hj; exact .inr hj
      refine ⟨by rw [hupd]; exact hb, (put_defers _ _ _).trans hI.defers, (put_size _ _ _).trans hI.size, by simpa using hI.lsize, fun j oj hj hl e he hbd => ?_, fun j oj d hj hl hd => ?_, fun t ht => ?_⟩
      · rcases hlist j hl with rfl | hl
        · obtain rfl : oj = oi := by rw [hoi] at hj; simpa using hj.symm
          exact getD_set_true (hall e he hbd)
        · exact getD_set_true (hI.closed j oj hj hl e he hbd)
      · rcases hlist j hl with rfl | hl
        · obtain rfl : oj = oi := by rw [hoi] at hj; simpa using hj.symm
          rw [hv, hd, put_getD a1 d d v (by rw [hI.size]; exact hin j oj d hj hd), if_pos rfl, put_getD (S j) d d v (by rw [hsz.1]; exact hin j oj d hj hd), if_pos rfl]
        · have hne : oi.dst ≠ some d := by
            intro h
            have := hone i j oi oj d hoi hj h hd
            subst this
            rw [hunf] at hl; cases hl
          rw [hget d hne]
          exact hI.done j oj d hj hl hd
      · have hne : oi.dst ≠ some t := ht i oi hoi (by simp [hill])
        rw [hget t hne]
        exact hI.rest t (fun j oj hj hl => ht j oj hj (getD_set_true hl))
    have hwl : Region.wanted oi (yielded ops a1.tmps) = Region.wanted oi (yielded ops (S i).tmps) :=
      wanted_looks (I := []) (w := w1) (by unfold guardKnown; split; rfl; split <;> rfl) hsame (fun t ht => hlook t ht)
    have hstep := hst i oi hoi
    unfold wpOp
    simp only [hoi]
    generalize hSj : S (i + 1) = sj at *
    cases hstep with
    | skip hw hq =>
      rw [hwl, hw]
      simp only [Bool.false_eq_true, if_false]
      exact ih _ _ _ hcount (hnext undef w1 rfl (hq _ _ hI.world hcomes))
    | val v hw h =>
      rw [hwl, hw]
      simp only [if_true]
      exact .inl (h _ a1 w1 hI.world hcomes hlook _ _ (fun w' hu => ih _ _ _ hcount (hnext v w' rfl hu)))
end

/-! ### how far the chain is -/
/-- so many of the chain have been: what the world is like -/
def CLp (C : Nat → World → Prop) (E : List Nat) (L : Nat → Bool) (w : World) : Prop := C (E.filter L).length w
/-- x is y, or waits for it, some by way of others -/
def waitsGB (ops : Array Oper) : Nat → Nat → Nat → Bool
  | 0, x, y => x == y
  | f + 1, x, y => x == y || match ops[x]? with
    | some o => o.after.any fun e => Region.binds .any e && waitsGB ops f e.on y
    | none => false
theorem waitsGB_sound {ops : Array Oper} {L : Nat → Bool} (hcl : ∀ (j : Nat) (oj : Oper), ops[j]? = some oj → L j = true → ∀ e ∈ oj.after, Region.binds .any e = true → L e.on = true) :
    ∀ (f x y : Nat), waitsGB ops f x y = true → L x = true → L y = true
  | 0, x, y, h, hx => by
    have : x = y := by simpa [waitsGB] using h
    rw [← this]; exact hx
  | f + 1, x, y, h, hx => by
    unfold waitsGB at h
    rw [Bool.or_eq_true] at h
    rcases h with h | h
    · have : x = y := by simpa using h
      rw [← this]; exact hx
    · split at h
      · rename_i o ho
        obtain ⟨e, he, hb⟩ := Array.any_eq_true'.1 h
        rw [Bool.and_eq_true] at hb
        exact waitsGB_sound hcl f e.on y hb.2 (hcl x o ho hx e he hb.1)
      · cases h
/-- each of the chain waits for the one ahead of it -/
def chainB (ops : Array Oper) (E : List Nat) : Bool := decide E.Nodup && E.all (· < ops.size) && (List.range (E.length - 1)).all fun j => match ops[E.getD (j + 1) 0]? with
  | some o => o.after.any fun e => Region.binds .any e && waitsGB ops 12 e.on (E.getD j 0)
  | none => false
section
variable {P : Program} {ops : Array Oper} {C : Nat → World → Prop} {E : List Nat}
theorem chain_edge (hch : chainB ops E = true) (j : Nat) (hj : j + 1 < E.length) : ∃ o, ops[E.getD (j + 1) 0]? = some o ∧ ∃ e ∈ o.after, Region.binds .any e = true ∧ waitsGB ops 12 e.on (E.getD j 0) = true := by
  unfold chainB at hch
  simp only [Bool.and_eq_true] at hch
  have h := List.all_eq_true.1 hch.2 j (List.mem_range.2 (by omega))
  split at h
  · rename_i o ho
    obtain ⟨e, he, hb⟩ := Array.any_eq_true'.1 h
    rw [Bool.and_eq_true] at hb
    exact ⟨o, ho, e, he, hb.1, hb.2⟩
  · cases h
theorem chain_nodup (hch : chainB ops E = true) : E.Nodup := by
  unfold chainB at hch
  simp only [Bool.and_eq_true, decide_eq_true_eq] at hch
  exact hch.1.1
theorem chain_lt (hch : chainB ops E = true) : ∀ i ∈ E, i < ops.size := by
  unfold chainB at hch
  simp only [Bool.and_eq_true] at hch
  intro i hi
  simpa using List.all_eq_true.1 hch.1.2 i hi
theorem chain_down (hch : chainB ops E = true) {L : Nat → Bool} (hcl : ∀ (j : Nat) (oj : Oper), ops[j]? = some oj → L j = true → ∀ e ∈ oj.after, Region.binds .any e = true → L e.on = true) (j : Nat) :
    ∀ d, j + d < E.length → L (E.getD (j + d) 0) = true → L (E.getD j 0) = true
  | 0, _, h => h
  | d + 1, hl, h => by
    obtain ⟨o, ho, e, he, hb, heq⟩ := chain_edge hch (j + d) (by omega)
    have := waitsGB_sound hcl 12 _ _ heq (hcl _ o ho h e he hb)
    exact chain_down hch hcl j d (by omega) this
theorem filter_upd_not {L : Nat → Bool} {k : Nat} (hk : E.contains k = false) : E.filter (updL L k) = E.filter L := by
  apply List.filter_congr
  intro x hx
  unfold updL
  rw [if_neg]
  rintro rfl
  have : E.contains x = true := by simpa using hx
  rw [hk] at this
  cases this
theorem getD_of {j k : Nat} (h : E[j]? = some k) : E.getD j 0 = k := by rw [List.getD_eq_getElem?_getD, h]; rfl
theorem chain_phase (hch : chainB ops E = true) {L : Nat → Bool} {j k : Nat} {o : Oper} (hj : E[j]? = some k) (ho : ops[k]? = some o) (hc : Comes ops .any k o L) :
    (E.filter L).length = j ∧ (E.filter (updL L k)).length = j + 1 := by
  have hjl := (List.getElem?_eq_some_iff.1 hj).1
  have hk := getD_of hj
  have hbef : ∀ i, i < j → L (E.getD i 0) = true := by
    intro i hi
    obtain ⟨o', ho', e, he, hb, heq⟩ := chain_edge hch (j - 1) (by omega)
    rw [show j - 1 + 1 = j by omega, hk, ho] at ho'
    cases ho'
    have h1 := waitsGB_sound hc.closed 12 _ _ heq (hc.ready e he hb)
    have h2 := chain_down hch hc.closed i (j - 1 - i) (by omega)
    rw [show i + (j - 1 - i) = j - 1 by omega] at h2
    exact h2 h1
  have haft : ∀ i, j ≤ i → i < E.length → L (E.getD i 0) = false := by
    intro i hi hl
    rcases hb : L (E.getD i 0) with _ | _
    · rfl
    · have h2 := chain_down hch hc.closed j (i - j) (by omega)
      rw [show j + (i - j) = i by omega] at h2
      have := h2 hb
      rw [hk, hc.not] at this
      cases this
  have hmem : ∀ (l : List Nat) (x : Nat), x ∈ l → ∃ i, i < l.length ∧ l.getD i 0 = x := by
    intro l x hx
    obtain ⟨i, hi, rfl⟩ := List.mem_iff_getElem.1 hx
    exact ⟨i, hi, by rw [List.getD_eq_getElem?_getD, List.getElem?_eq_getElem hi]; rfl⟩
  have e1 : E.filter L = E.take j := by
    conv => lhs; rw [← List.take_append_drop j E]
    rw [List.filter_append, List.filter_eq_self.2, List.filter_eq_nil_iff.2, List.append_nil]
    · intro x hx
      obtain ⟨i, hi, rfl⟩ := hmem _ x hx
      rw [List.length_drop] at hi
      have : (E.drop j).getD i 0 = E.getD (j + i) 0 := by rw [List.getD_eq_getElem?_getD, List.getD_eq_getElem?_getD, List.getElem?_drop]
      rw [this, haft (j + i) (by omega) (by omega)]
      simp
    · intro x hx
      obtain ⟨i, hi, rfl⟩ := hmem _ x hx
      rw [List.length_take] at hi
      have : (E.take j).getD i 0 = E.getD i 0 := by rw [List.getD_eq_getElem?_getD, List.getD_eq_getElem?_getD, List.getElem?_take_of_lt (by omega)]
      rw [this]
      exact hbef i (by omega)
  refine ⟨by rw [e1, List.length_take]; omega, ?_⟩
  have e2 : E.filter (updL L k) = E.take (j + 1) := by
    conv => lhs; rw [← List.take_append_drop (j + 1) E]
    rw [List.filter_append, List.filter_eq_self.2, List.filter_eq_nil_iff.2, List.append_nil]
    · intro x hx
      obtain ⟨i, hi, rfl⟩ := hmem _ x hx
      rw [List.length_drop] at hi
      have : (E.drop (j + 1)).getD i 0 = E.getD (j + 1 + i) 0 := by rw [List.getD_eq_getElem?_getD, List.getD_eq_getElem?_getD, List.getElem?_drop]
      rw [this]
      unfold updL
      rw [if_neg, haft (j + 1 + i) (by omega) (by omega)]
      · simp
      · intro e
        have hn := chain_nodup hch
        rw [List.getD_eq_getElem?_getD, List.getElem?_eq_getElem (by omega)] at e
        have h1 : E[j + 1 + i]? = E[j]? := by rw [hj, List.getElem?_eq_getElem (by omega)]; simpa using e
        have := (List.getElem?_inj (by omega) hn).1 h1
        omega
    · intro x hx
      obtain ⟨i, hi, rfl⟩ := hmem _ x hx
      rw [List.length_take] at hi
      have : (E.take (j + 1)).getD i 0 = E.getD i 0 := by rw [List.getD_eq_getElem?_getD, List.getD_eq_getElem?_getD, List.getElem?_take_of_lt (by omega)]
      rw [this]
      unfold updL
      by_cases hij : i = j
      · rw [hij, hk, if_pos rfl]
      · split
        · rfl
        · exact hbef i (by omega)
  rw [e2, List.length_take]
  omega

/-! ### the walk -/
def wpGA (P : Program) (ops : Array Oper) (C : Nat → World → Prop) (E : List Nat) (Q : Act → World → Prop) : Nat → List Oper → Act → Prop
  | _, [], a => ∀ w, C E.length w → Q a w
  | k, o :: rest, a => ∃ a', StepG P ops .any (CLp C E) k o a a' ∧ wpGA P ops C E Q (k + 1) rest a'
theorem wpGA_path {Q : Act → World → Prop} : ∀ (l : List Oper) (k : Nat) (a : Act), wpGA P ops C E Q k l a →
    ∃ S : Nat → Act, S 0 = a ∧ (∀ i o, l[i]? = some o → StepG P ops .any (CLp C E) (k + i) o (S i) (S (i + 1))) ∧ ∀ w, C E.length w → Q (S l.length) w
  | [], k, a, h => ⟨fun _ => a, rfl, fun i o hi => by simp at hi, h⟩
  | o :: rest, k, a, ⟨a', h1, h2⟩ => by
    obtain ⟨S, g0, g1, g2⟩ := wpGA_path rest (k + 1) a' h2
    refine ⟨fun i => match i with | 0 => a | i + 1 => S i, rfl, fun i o' hi => ?_, fun w hw => g2 w hw⟩
    cases i with
    | zero =>
      obtain rfl : o = o' := by simpa using hi
      show StepG P ops .any (CLp C E) (k + 0) o a (S 0)
      rw [g0]; exact h1
    | succ i =>
      have := g1 i o' (by simpa using hi)
      rw [show k + (i + 1) = k + 1 + i by omega]
      exact this
/-- THE REGION -/
theorem wp_region_G {id : Nat} {Q : Exit → Act → World → Prop} {a : Act} {w : World} {l : List Oper} (hm : P.follows .mixedOrders = true) (hB : Region.lexB .any l.toArray = true) (hD : dstsB l a.tmps.size = true) (hch : chainB l.toArray E = true)
    (hC : C 0 { w with drawn := w.drawn + 1 }) (h : wpGA P l.toArray C E (fun a' w' => Q .normal a' w') 0 l a) : (Code.region id l.toArray true).wp P Q a w := by
  obtain ⟨S, hS0, hst, hfin⟩ := wpGA_path l 0 a h
  have hB' : Region.lexFrom .any l.toArray l.toArray.size 0 (Array.replicate l.toArray.size false) = true := by
    simp only [Region.lexB, Bool.and_eq_true] at hB; exact hB.2
  have hf : ∀ j, (Array.replicate l.toArray.size false).getD j false = true → False := by
    intro j hl
    by_cases hi : j < l.length <;> simp [hi] at hl
  refine wp_region_any hm ?_
  refine wpAny_G (P := P) (ops := l.toArray) (CL := CLp C E) (md := .any) (a0 := a) (S := S) hS0 (fun k o hk => by have := hst k o (by simpa using hk); rw [Nat.zero_add] at this; exact this)
    (fun k o d hk hd => dsts_lt hD (k := k) (by simpa using hk) hd) (fun j k x y d hj hk hx hy => dsts_one hD (j := j) (k := k) (by simpa using hj) (by simpa using hk) hx hy)
    (fun i oi hi => lexFrom_free _ 0 _ hB' (by simp) (fun i => ?_) (by simp) i oi (Nat.zero_le _) hi) (fun a1 w1 L hcl hall ha => ?_) _ _ _ _ ⟨_, rfl, ?_⟩ ⟨?_, rfl, rfl, by simp, fun j oj hj hl => (hf j hl).elim, fun j oj d hj hl => (hf j hl).elim, fun t _ => rfl⟩
  · by_cases hi : i < l.length
    · simp [hi]
    · simp [hi]; omega
  · have e : E.filter L = E := List.filter_eq_self.2 (fun x hx => hall x (chain_lt hch x hx))
    unfold CLp at hcl
    rw [e] at hcl
    have := hfin w1 hcl
    rw [ha]
    simpa using this
  · rw [count_none]; simp
  · unfold CLp
    have e : E.filter (fun j => (Array.replicate l.toArray.size false).getD j false) = [] := List.filter_eq_nil_iff.2 (fun x _ h => hf x h)
    rw [e]
    exact hC

variable {Q : Act → World → Prop} {o : Oper} {rest : List Oper} {k : Nat} {fs : List Value} {ds : List Deferred}
/-- the walk over a list -/
def wpG (P : Program) (ops : Array Oper) (C : Nat → World → Prop) (E : List Nat) (Q : Act → World → Prop) (ds : List Deferred) (k : Nat) (l : List Oper) (fs : List Value) : Prop := wpGA P ops C E Q k l (mkA fs ds)
theorem wp_chain_list {id : Nat} {Q : Exit → Act → World → Prop} {w : World} {l : List Oper} {fs : List Value} {ds : List Deferred} (E : List Nat) (C : Nat → World → Prop) (hm : P.follows .mixedOrders = true) (hB : Region.lexB .any l.toArray = true) (hD : dstsB l fs.length = true) (hch : chainB l.toArray E = true)
    (hC : C 0 { w with drawn := w.drawn + 1 }) (h : wpG P l.toArray C E (fun a' w' => Q .normal a' w') ds 0 l fs) : (Code.region id l.toArray true).wp P Q ⟨fs.toArray, ds⟩ w :=
  wp_region_G hm hB (by simpa using hD) hch hC h
theorem wpG_run (v : Value) (hE : E.contains k = false) (hs : notSelect o = true) (hw : wantedL ops fs o = true) (hrun : ∀ j w, C j w → (execOp (ev fs) o).run P w = .ok (.value v) w) (c : wpG P ops C E Q ds (k + 1) rest (setL fs o.dst v)) : wpG P ops C E Q ds k (o :: rest) fs :=
  ⟨_, .val v (wantedL_eq.trans hw) (fun L a1 w hC _ ht K Q' hK => by
    have e : execOp a1.eval o = execOp (mkA fs ds).eval o := execOp_congr o (fun cs b h => by simp [notSelect, h] at hs) fun x hx => eval_looks ht x hx
    unfold Oper.wp
    rw [e, mkA_evalF, hrun _ w hC]
    exact hK _ (by unfold CLp at *; rw [filter_upd_not hE]; exact hC)), by rw [mkA_put]; exact c⟩
theorem wpG_run1 {x : Operand} (vx v : Value) (hE : E.contains k = false) (hx : ev fs x = vx) (hs : notSelect o = true) (hw : wantedL ops fs o = true) (hrun : ∀ j w (ρ : Operand → Value), C j w → ρ x = vx → (∀ c, ρ (.const c) = c) → (execOp ρ o).run P w = .ok (.value v) w) (c : wpG P ops C E Q ds (k + 1) rest (setL fs o.dst v)) : wpG P ops C E Q ds k (o :: rest) fs :=
  wpG_run v hE hs hw (fun j w hC => hrun j w _ hC hx fun _ => rfl) c
theorem wpG_run2 {x y : Operand} (vx vy v : Value) (hE : E.contains k = false) (hx : ev fs x = vx) (hy : ev fs y = vy) (hs : notSelect o = true) (hw : wantedL ops fs o = true) (hrun : ∀ j w (ρ : Operand → Value), C j w → ρ x = vx → ρ y = vy → (∀ c, ρ (.const c) = c) → (execOp ρ o).run P w = .ok (.value v) w) (c : wpG P ops C E Q ds (k + 1) rest (setL fs o.dst v)) : wpG P ops C E Q ds k (o :: rest) fs :=
  wpG_run v hE hs hw (fun j w hC => hrun j w _ hC hx hy fun _ => rfl) c
theorem wpG_move {x : Operand} (v : Value) (ho : o.op = .move x) (hE : E.contains k = false) (hv : ev fs x = v) (hw : wantedL ops fs o = true) (c : wpG P ops C E Q ds (k + 1) rest (setL fs o.dst v)) : wpG P ops C E Q ds k (o :: rest) fs :=
  wpG_run v hE (by simp [notSelect, ho]) hw (fun j w _ => by simp only [execOp, ho, hv]; rfl) c
theorem wpG_end (h : ∀ w, C E.length w → Q ⟨fs.toArray, ds⟩ w) : wpG P ops C E Q ds k [] fs := h
end
end Go.Own

end
section
namespace Go.Own
open Go.RowKit
section
variable {P : Program} {ops : Array Oper} {E : List Nat} {C : Nat → World → Prop} {Q : Act → World → Prop} {ds : List Deferred} {k : Nat} {o : Oper} {rest : List Oper} {fs : List Value}
/-- the m-th of the chain waits for operation k -/
def aheadB (ops : Array Oper) (E : List Nat) (k m : Nat) : Bool := decide (m < E.length) && waitsGB ops 30 (E.getD m 0) k
theorem chain_most (hch : chainB ops E = true) {L : Nat → Bool} {m k : Nat} {o : Oper} (hb : aheadB ops E k m = true) (hc : Comes ops .any k o L) : (E.filter L).length ≤ m := by
  unfold aheadB at hb
  simp only [Bool.and_eq_true, decide_eq_true_eq] at hb
  obtain ⟨hm, hb⟩ := hb
  have hno : ∀ i, m ≤ i → i < E.length → L (E.getD i 0) = false := by
    intro i hi hil
    by_cases h : L (E.getD i 0) = true
    · have h2 := chain_down hch hc.closed m (i - m) (by omega) (by rw [show m + (i - m) = i by omega]; exact h)
      have h3 := waitsGB_sound hc.closed 30 _ _ hb h2
      rw [hc.not] at h3
      cases h3
    · simpa using h
  have e2 : E.filter L = (E.take m).filter L ++ (E.drop m).filter L := by
    conv => lhs; rw [← List.take_append_drop m E]
    rw [List.filter_append]
  have e1 : (E.drop m).filter L = [] := by
    apply List.filter_eq_nil_iff.2
    intro x hx
    obtain ⟨i, hi, rfl⟩ := List.mem_iff_getElem.1 hx
    rw [List.length_drop] at hi
    have := hno (m + i) (by omega) (by omega)
    rw [List.getD_eq_getElem?_getD, List.getElem?_eq_getElem (by omega)] at this
    rw [List.getElem_drop]
    simpa using this
  rw [e2, e1, List.append_nil]
  exact Nat.le_trans (List.length_filter_le _ _) (by rw [List.length_take]; omega)
/-- a read ahead of the m-th of the chain -/
theorem wpG_runU (m : Nat) (v : Value) (hch : chainB ops E = true) (hb : aheadB ops E k m = true) (hE : E.contains k = false) (hs : notSelect o = true) (hw : wantedL ops fs o = true) (hrun : ∀ j w, j ≤ m → C j w → (execOp (ev fs) o).run P w = .ok (.value v) w) (c : wpG P ops C E Q ds (k + 1) rest (setL fs o.dst v)) : wpG P ops C E Q ds k (o :: rest) fs :=
  ⟨_, .val v (wantedL_eq.trans hw) (fun L a1 w hC hcm ht K Q' hK => by
    have e : execOp a1.eval o = execOp (mkA fs ds).eval o := execOp_congr o (fun cs b h => by simp [notSelect, h] at hs) fun x hx => eval_looks ht x hx
    unfold Oper.wp
    rw [e, mkA_evalF, hrun _ w (chain_most hch hb hcm) hC]
    exact hK _ (by unfold CLp at *; rw [filter_upd_not hE]; exact hC)), by rw [mkA_put]; exact c⟩
theorem wpG_runU1 {x : Operand} (m : Nat) (vx v : Value) (hch : chainB ops E = true) (hb : aheadB ops E k m = true) (hE : E.contains k = false) (hx : ev fs x = vx) (hs : notSelect o = true) (hw : wantedL ops fs o = true) (hrun : ∀ j w (ρ : Operand → Value), j ≤ m → C j w → ρ x = vx → (∀ c, ρ (.const c) = c) → (execOp ρ o).run P w = .ok (.value v) w) (c : wpG P ops C E Q ds (k + 1) rest (setL fs o.dst v)) : wpG P ops C E Q ds k (o :: rest) fs :=
  wpG_runU m v hch hb hE hs hw (fun j w hj hC => hrun j w _ hj hC hx fun _ => rfl) c
/-- what an operation leaves in its slot -/
def leaves (v : Value) (n : Next) : Prop := n = .value v ∨ (n = .skip ∧ v = undef)
/-- operation number j of the chain -/
theorem wpG_op (j : Nat) (v : Value) (n : Next) (hn : leaves v n) (hch : chainB ops E = true) (hk : ops[k]? = some o) (hj : E[j]? = some k) (hs : notSelect o = true) (hw : wantedL ops fs o = true)
    (hrun : ∀ w, C j w → ∃ w', (execOp (ev fs) o).run P w = .ok n w' ∧ C (j + 1) w') (c : wpG P ops C E Q ds (k + 1) rest (setL fs o.dst v)) : wpG P ops C E Q ds k (o :: rest) fs :=
  ⟨_, .val v (wantedL_eq.trans hw) (fun L a1 w hC hcm ht K Q' hK => by
    have e : execOp a1.eval o = execOp (mkA fs ds).eval o := execOp_congr o (fun cs b h => by simp [notSelect, h] at hs) fun x hx => eval_looks ht x hx
    obtain ⟨p1, p2⟩ := chain_phase hch hj hk hcm
    unfold CLp at hC
    rw [p1] at hC
    obtain ⟨w', hr, hC'⟩ := hrun w hC
    unfold Oper.wp
    rw [e, mkA_evalF, hr]
    have hfin := hK w' (by unfold CLp; rw [p2]; exact hC')
    rcases hn with rfl | ⟨rfl, rfl⟩
    · exact hfin
    · exact hfin), by rw [mkA_put]; exact c⟩
end
end Go.Own

end
section
namespace Go.Own
open Go.RowKit
/-- a slice literal of one element of many cells, out of the same for cells that are known to be there -/
theorem run_slot_one {P : Program} {t e : TypeId} {c : Nat} (hu : P.underlying t = some (.slice e)) (hslot : ∀ f : Nat → Value, P.builtSlice e 1 [(0, .agg ((List.range c).map f).toArray)] = some ((List.range c).map f).toArray) (cs : List Value) (hl : cs.length = c) (w : World) :
    (Instr.buildSlice t 1 #[(0, .agg cs.toArray)]).run P w = .ok (.slice (some ⟨w.heap.size, 0, none⟩) 1 1) (w.alloc (.cells cs.toArray e)) := by
  have hrm : (List.range c).map (fun i => cs.getD i undef) = cs := by
    apply List.ext_getElem
    · simp [hl]
    · intro i h1 h2
      simp [List.getD, h2]
  have h : P.builtSlice e 1 [(0, .agg cs.toArray)] = some cs.toArray := by
    have h := hslot (fun i => cs.getD i undef)
    rw [hrm] at h
    exact h
  unfold Program.builtSlice at h
  cases hie : P.info? e with
  | none => simp [hie] at h
  | some ie =>
    simp only [hie] at h
    cases hz : ie.zero with
    | none => simp [hz] at h
    | some z =>
      simp only [hz] at h
      by_cases hc : 1 * ie.size > 2 ^ 24 ∨ 1 * ie.size = 0
      · simp only [Nat.one_mul] at hc
        simp at h
        omega
      · rw [if_neg hc] at h
        have h1 : ¬ (1 * ie.size > 2 ^ 24) := fun h' => hc (Or.inl h')
        have h2 : ¬ (1 * ie.size = 0) := fun h' => hc (Or.inr h')
        simp only [Nat.one_mul] at h1 h2 h
        simp [Instr.buildSlice, run_underlying hu, sizeOf, typeInfo, zeroValue, hie, hz, newRow, h1, h2, h]
/-- .. in a walk -/
theorem wpList_slot_one {P : Program} {ops : Array Oper} {rest : List Oper} {o : Oper} {a : Act} {w : World} {Q : Exit → Act → World → Prop} (hgd : o.guard = none) (t : TypeId) (x : Operand) (ho : o.op = .buildSlice t 1 #[(0, x)]) (cs : List Value) (e : TypeId) (hx : a.eval x = .agg cs.toArray)
    (hrun : (Instr.buildSlice t 1 #[(0, .agg cs.toArray)]).run P w = .ok (.slice (some ⟨w.heap.size, 0, none⟩) 1 1) (w.alloc (.cells cs.toArray e)))
    (h : wpList P ops Q rest (a.put o.dst (.slice (some ⟨w.heap.size, 0, none⟩) 1 1)) (w.alloc (.cells cs.toArray e))) : wpList P ops Q (o :: rest) a w := by
  refine wpList_plain hgd fun K hK => ?_
  unfold Oper.wp
  simp [execOp, ho, hx, hrun, Result.andThen]
  exact hK _ _ h
end Go.Own

end
section
namespace Go.LogM
theorem barrier_pp (s : FlaM.FS) : (FlaM.barrier s).1.pp = s.pp := by
  unfold FlaM.barrier
  split
  · exact (trip_same s).2.2
  · exact (trip_same s).2.2
end Go.LogM
namespace Go.Proofs.Ytmdphcebmgcdbaa
open Go.RowKit Go.Own
namespace Lg
open Go.LogM Byt
section
variable {W w0 w : World} {FK : Fla.Kept W} {TK : Tab.Kept W} {K : Kept W FK TK} {B : Nat} {p pf pt : Nat} {σ : LG} {Ps : List Asn} {N : Nat}
theorem barrier_lst (hW : Below W.heap.size W w0) (hB : W.heap.size ≤ B) (H : LSt K B w0 w p pf pt 1 σ Ps) (ok : FlaM.Ok σ.fs N) (hN : N ≤ 9000) :
    Calls Try.prog 17 #[ptr pf] w fun e w' => e = .returned (errL (FlaM.barrier σ.fs).2) ∧ LSt K B w0 w' p pf pt 1 ⟨(FlaM.barrier σ.fs).1, σ.tb, σ.a⟩ Ps :=
  (FK.barrier (H.wide hW hB) (H.front 1 rfl) ok (by omega)).mono fun e w' ⟨h1, h2⟩ => ⟨h1, by
    have h := h2.swap2
    simp only [List.eraseIdx_cons_zero] at h
    show Own.St B w0 w' (K.A p pf pt 1 (FlaM.barrier σ.fs).1.pp σ.tb σ.a :: _)
    rw [barrier_pp]
    exact h⟩
theorem cut_lst (hW : Below W.heap.size W w0) (hB : W.heap.size ≤ B) (H : LSt K B w0 w p pf pt 1 σ Ps) (ok : FlaM.Ok σ.fs N) (hN : N ≤ 9000) (after : Int) (ha : i64L after) :
    Calls Try.prog 15 #[ptr pf, .int .i64 after] w fun e w' => e = .returned (.tuple #[]) ∧ LSt K B w0 w' p pf pt 1 ⟨FlaM.cut σ.fs after, σ.tb, σ.a⟩ Ps :=
  (FK.cut after (H.wide hW hB) (H.front 1 rfl) ok (by omega) ha).mono fun e w' ⟨h1, h2⟩ => ⟨h1, by
    have h := h2.swap2
    simp only [List.eraseIdx_cons_zero] at h
    have e : (FlaM.cut σ.fs after).pp = σ.fs.pp := by unfold FlaM.cut; split <;> rfl
    show Own.St B w0 w' (K.A p pf pt 1 (FlaM.cut σ.fs after).pp σ.tb σ.a :: _)
    rw [e]
    exact h⟩
theorem crash_lst (hW : Below W.heap.size W w0) (hB : W.heap.size ≤ B) (H : LSt K B w0 w p pf pt 1 σ Ps) (ok : FlaM.Ok σ.fs N) (hN : N ≤ 9000) (ao : Option Addr) (n cap : Nat) (l : List Int) (hl : Fla.LiesI B w [] ao n cap l) :
    Calls Try.prog 20 #[ptr pf, .slice ao n cap] w fun e w' => e = .returned (.tuple #[]) ∧ LSt K B w0 w' p pf pt 1 ⟨FlaM.crash σ.fs l, σ.tb, σ.a⟩ Ps :=
  (FK.crash ao n cap l (H.wide hW hB) (H.front 1 rfl) ok (by omega) ⟨hl.size, hl.room, hl.nil, hl.ints, hl.where_.imp (fun ⟨j, b, h, _⟩ => by simp at h) id⟩).mono fun e w' ⟨h1, h2⟩ => ⟨h1, by
    have h := h2.swap2
    simp only [List.eraseIdx_cons_zero] at h
    exact h⟩
end
/-- numbers that came in -/
theorem fates_in {l : List Int} {B : Nat} {w w' : World} {ao : Option Addr} {n cap : Nat} (h : inSlice 1 (inInt .i64) l B w [.slice ao n cap]) (g : ∀ k, k < B → w'.heap[k]? = w.heap[k]?) (hB : B ≤ w'.heap.size) : Fla.LiesI B w' [] ao n cap l := by
  obtain ⟨ao', cap', h1, h2, h3, h4, h5⟩ := h
  simp only [List.cons.injEq, Value.slice.injEq, and_true] at h1
  obtain ⟨rfl, rfl, rfl⟩ := h1
  have hint : ∀ j, j < l.length → Fla.i64B (l.getD j 0) := by
    intro j hj
    rcases h5 with rfl | ⟨b, o, e, hb, hs, hcc⟩
    · simp at hj
    · obtain ⟨cs', g1, g2, g3⟩ := hcc j hj
      obtain ⟨_, q2⟩ := g3
      rw [List.getD_eq_getElem?_getD, List.getElem?_eq_getElem hj]
      exact Fla.wf64 q2
  refine ⟨rfl, ⟨h2, h3⟩, h4, hint, .inr ?_⟩
  rcases h5 with rfl | ⟨b, o, e, hb, hs, hcc⟩
  · exact .inl rfl
  · refine .inr ⟨b, o, e, hb, Nat.lt_of_lt_of_le hb hB, fun j hj => ⟨?_, hint j hj⟩⟩
    obtain ⟨cs', g1, g2, g3⟩ := hcc j hj
    obtain ⟨rfl, q2⟩ := g3
    have := (World.cell?_of_block (w := w) (g b hb)).trans (g2 0 (by simp))
    simp only [Nat.mul_one, Nat.add_zero] at this
    rw [this, List.getD_eq_getElem?_getD, List.getElem?_eq_getElem hj]
    rfl
/-- rows of notes -/
def notesC (ns : List RecM.Nte) (gs : List GSl) : List Value := (List.zipWith (fun n g => Rec.ntC n (gslV g)) ns gs).flatten
structure NAll (w : World) (B : Nat) (ns : List RecM.Nte) (gs : List GSl) : Prop where
  len : gs.length = ns.length
  sum : ∀ n ∈ ns, n.sum.length = 32
  at_ : ∀ i (h1 : i < ns.length) (h2 : i < gs.length), gs[i].2.2 = ns[i].data ∧ View w (fun k => k < B) gs[i].1 gs[i].2.2
theorem NAll.nil (w : World) (B : Nat) : NAll w B [] [] := ⟨rfl, fun n h => (by cases h), fun i h => absurd h (Nat.not_lt_zero _)⟩
theorem NAll.snoc {w : World} {B : Nat} {ns : List RecM.Nte} {gs : List GSl} {n : RecM.Nte} {g : GSl} (h : NAll w B ns gs) (hs : n.sum.length = 32) (hd : g.2.2 = n.data) (hv : View w (fun k => k < B) g.1 g.2.2) : NAll w B (ns ++ [n]) (gs ++ [g]) := by
  refine ⟨by rw [List.length_append, List.length_append, h.len]; rfl, ?_, ?_⟩
  · intro x hx
    rcases List.mem_append.1 hx with hx | hx
    · exact h.sum x hx
    · rw [List.mem_singleton.1 hx]; exact hs
  · intro i h1 h2
    by_cases hi : i < ns.length
    · have hg : i < gs.length := by rw [h.len]; exact hi
      rw [List.getElem_append_left hi, List.getElem_append_left hg]
      exact h.at_ i hi hg
    · have e : i = ns.length := by rw [List.length_append, List.length_singleton] at h1; omega
      subst e
      rw [List.getElem_append_right (Nat.le_refl _), List.getElem_append_right (by rw [h.len]; exact Nat.le_refl _)]
      simp [h.len]
      exact ⟨hd, hv⟩
theorem NAll.same {w w' : World} {B : Nat} {ns : List RecM.Nte} {gs : List GSl} (h : NAll w B ns gs) (g : ∀ k, k < B → w'.heap[k]? = w.heap[k]?) : NAll w' B ns gs :=
  ⟨h.len, h.sum, fun i h1 h2 => ⟨(h.at_ i h1 h2).1, (h.at_ i h1 h2).2.same g⟩⟩
theorem notesC_snoc {ns : List RecM.Nte} {gs : List GSl} (n : RecM.Nte) (g : GSl) (h : gs.length = ns.length) : notesC (ns ++ [n]) (gs ++ [g]) = notesC ns gs ++ Rec.ntC n (gslV g) := by
  unfold notesC
  rw [List.zipWith_append (by rw [h]), List.flatten_append]
  simp
theorem notesC_at : ∀ (ns : List RecM.Nte) (gs : List GSl), gs.length = ns.length → (∀ n ∈ ns, n.sum.length = 32) → ∀ i (h1 : i < ns.length) (h2 : i < gs.length) j v, (Rec.ntC ns[i] (gslV gs[i]))[j]? = some v → (notesC ns gs)[i * 37 + j]? = some v
  | [], _, _, _, i, h1, _, _, _, _ => absurd h1 (Nat.not_lt_zero _)
  | _ :: _, [], hl, _, _, _, _, _, _, _ => by simp at hl
  | n :: ns, g :: gs, hl, hs, 0, _, _, j, v, hv => by
    show (Rec.ntC n (gslV g) ++ notesC ns gs)[0 * 37 + j]? = some v
    have hv' : (Rec.ntC n (gslV g))[j]? = some v := hv
    rw [Nat.zero_mul, Nat.zero_add, List.getElem?_append_left (List.getElem?_eq_some_iff.1 hv').1]
    exact hv'
  | n :: ns, g :: gs, hl, hs, i + 1, h1, h2, j, v, hv => by
    show (Rec.ntC n (gslV g) ++ notesC ns gs)[(i + 1) * 37 + j]? = some v
    have h37 := Rec.ntC_len n (gslV g) (hs n List.mem_cons_self)
    rw [List.getElem?_append_right (by rw [h37, Nat.add_mul]; omega), h37, show (i + 1) * 37 + j - 37 = i * 37 + j by rw [Nat.add_mul]; omega]
    exact notesC_at ns gs (by simpa using hl) (fun x hx => hs x (List.mem_cons_of_mem _ hx)) i (by simpa using h1) (by simpa using h2) j v hv
theorem slot_note (f : Nat → Value) : Try.prog.builtSlice 58 1 [(0, .agg ((List.range 37).map f).toArray)] = some ((List.range 37).map f).toArray := by kernel_rfl
theorem many_note : Many Try.prog 48 58 37 80 := ⟨Try.underlying48, by kernel_rfl, by decide⟩
/-- rows of entries -/
theorem entsC_at : ∀ (E : List Ent) (gs : List GSl), gs.length = E.length → (∀ e ∈ E, e.note.sum.length = 32) → ∀ i (h1 : i < E.length) (h2 : i < gs.length) j v, (entC E[i] (gslV gs[i]))[j]? = some v → (entsC E gs)[i * 40 + j]? = some v
  | [], _, _, _, i, h1, _, _, _, _ => absurd h1 (Nat.not_lt_zero _)
  | _ :: _, [], hl, _, _, _, _, _, _, _ => by simp at hl
  | n :: ns, g :: gs, hl, hs, 0, _, _, j, v, hv => by
    show (entC n (gslV g) ++ entsC ns gs)[0 * 40 + j]? = some v
    have hv' : (entC n (gslV g))[j]? = some v := hv
    rw [Nat.zero_mul, Nat.zero_add, List.getElem?_append_left (List.getElem?_eq_some_iff.1 hv').1]
    exact hv'
  | n :: ns, g :: gs, hl, hs, i + 1, h1, h2, j, v, hv => by
    show (entC n (gslV g) ++ entsC ns gs)[(i + 1) * 40 + j]? = some v
    have h37 := entC_len n (gslV g) (hs n List.mem_cons_self)
    rw [List.getElem?_append_right (by rw [h37, Nat.add_mul]; omega), h37, show (i + 1) * 40 + j - 40 = i * 40 + j by rw [Nat.add_mul]; omega]
    exact entsC_at ns gs (by simpa using hl) (fun x hx => hs x (List.mem_cons_of_mem _ hx)) i (by simpa using h1) (by simpa using h2) j v hv
def zEnt : List Value := entC ⟨zP, RecM.zeroN⟩ Rec.nilV
theorem zero_ent : (Try.prog.info? 72).bind (·.zero) = some (.agg zEnt.toArray) := by kernel_rfl
theorem zEnt_len : zEnt.length = 40 := entC_len _ _ rfl
theorem info_ent (cs : List Value) (h : cs.length = 40) : (Try.prog.info? 72).map (·.size) = some cs.length := by
  have h0 : (Try.prog.info? 72).map (fun i => i.size) = some 40 := by kernel_rfl
  rw [h]; exact h0
theorem entC_one {e : Ent} {v : Value} (hv : v.oneCell' = true) : ∀ u ∈ entC e v, u.oneCell' = true := by
  intro u hu
  unfold entC at hu
  simp only [List.mem_cons] at hu
  rcases hu with rfl | rfl | rfl | hu
  · rfl
  · rfl
  · rfl
  · exact Rec.ntC_one hv u hu
theorem ents_get (seg : Int) : ∀ (l : List RecM.Nte) (a i : Nat) (h : i < (ents seg a l).length), ∃ h2 : i < l.length, (ents seg a l)[i].note = l[i]
  | [], _, _, h => absurd h (Nat.not_lt_zero _)
  | n :: l, a, 0, _ => ⟨Nat.succ_pos _, rfl⟩
  | n :: l, a, i + 1, h => by
    obtain ⟨h2, e⟩ := ents_get seg l (a + (notePages n).length) i (by simpa [ents] using h)
    exact ⟨Nat.succ_lt_succ h2, e⟩
theorem ents_len (seg : Int) : ∀ (l : List RecM.Nte) (a : Nat), (ents seg a l).length = l.length
  | [], _ => rfl
  | n :: l, a => by show (ents seg _ l).length + 1 = _; rw [ents_len seg l]; rfl
/-- the answer of a scan stands behind the log -/
theorem behind2 {B : Nat} {w0 w : World} {x y a b c : Asn} {Ps : List Asn} (h : Own.St B w0 w (x :: y :: a :: b :: c :: Ps)) : Own.St B w0 w (a :: b :: c :: x :: y :: Ps) :=
  h.perm ((List.perm_append_comm (l₁ := [x, y]) (l₂ := [a, b, c])).append_right Ps)
theorem idx_noteE {o : Oper} {x y : Tmp} (ho : o.op = .indexAddr 48 (.tmp x) (.tmp y)) (g n c k : Nat) (hk : k < n) : ∀ (ρ : Operand → Value) w, ρ (.tmp x) = .slice (some ⟨g, 0, none⟩) n c → ρ (.tmp y) = .int .i64 (k : Int) → (execOp ρ o).run Try.prog w = .ok (.value (.pointer (some ⟨g, k * 37, none⟩))) w := by
  intro ρ w h0 h1
  have hk' : (k : Int) < (n : Int) := by omega
  simp [execOp, ho, h0, h1, go_sem, hk', add_of]
end Lg
end Go.Proofs.Ytmdphcebmgcdbaa

end
section
namespace Go.LogM
open FlaM (FS)
/-- all entries of the first k segments -/
def entsN (Ns : Nat → List RecM.Nte) : Nat → List Ent
  | 0 => []
  | k + 1 => entsN Ns k ++ ents (k : Int) 1 (Ns k)
theorem ents_snoc (seg : Int) (n : RecM.Nte) : ∀ (l : List RecM.Nte) (a : Nat), ents seg a (l ++ [n]) = ents seg a l ++ [⟨⟨seg, ((a + (l.flatMap notePages).length : Nat) : Int), ((notePages n).length : Int)⟩, n⟩]
  | [], a => rfl
  | m :: l, a => by
    show _ :: ents seg (a + (notePages m).length) (l ++ [n]) = _
    rw [ents_snoc seg n l, List.flatMap_cons, List.length_append, Nat.add_assoc]
    rfl
theorem ents_mem (seg : Int) : ∀ (l : List RecM.Nte) (a : Nat) (e : Ent), e ∈ ents seg a l → ∃ A n B, l = A ++ n :: B ∧ e = ⟨⟨seg, ((a + (A.flatMap notePages).length : Nat) : Int), ((notePages n).length : Int)⟩, n⟩
  | [], _, _, h => by cases h
  | m :: l, a, e, h => by
    have h' : e ∈ (⟨⟨seg, (a : Int), ((notePages m).length : Int)⟩, m⟩ : Ent) :: ents seg (a + (notePages m).length) l := h
    rcases List.mem_cons.1 h' with rfl | h2
    · exact ⟨[], m, l, rfl, rfl⟩
    · obtain ⟨A, n, B, rfl, rfl⟩ := ents_mem seg l _ e h2
      refine ⟨m :: A, n, B, rfl, ?_⟩
      rw [List.flatMap_cons, List.length_append, Nat.add_assoc]
theorem entsN_same {Ns Ns' : Nat → List RecM.Nte} : ∀ k, (∀ j, j < k → Ns' j = Ns j) → entsN Ns' k = entsN Ns k
  | 0, _ => rfl
  | k + 1, h => by
    unfold entsN
    rw [entsN_same k (fun j hj => h j (by omega)), h k (Nat.lt_succ_self _)]
theorem entsN_mem {Ns : Nat → List RecM.Nte} : ∀ (k : Nat) (e : Ent), e ∈ entsN Ns k → ∃ j, j < k ∧ e ∈ ents (j : Int) 1 (Ns j)
  | 0, _, h => by cases h
  | k + 1, e, h => by
    rcases List.mem_append.1 h with h | h
    · obtain ⟨j, hj, he⟩ := entsN_mem k e h
      exact ⟨j, by omega, he⟩
    · exact ⟨k, Nat.lt_succ_self _, h⟩
theorem note1_one {n : RecM.Nte} (h : Good n) : note1 (notePages n) = some (n, (notePages n).length) := by
  have := note1_pages h.fits h.right []
  rwa [List.append_nil] at this
section
variable {fr M : Nat} {σ : LG} {k : Nat} {op hd : Bool} {Ns : Nat → List RecM.Nte} {ex : List Bs} {F : Nat → List Bs} {X : List Bs} {er : Bool} {N : Nat}
theorem live_hd (h : Inv fr M σ k op hd Ns ex F X er) (hl : σ.fs.off = false) : hd = true ∧ ex = [] := by
  refine ⟨?_, ?_⟩
  · cases hd
    · have := (h.bad rfl).2.2
      rw [hl] at this; cases this
    · rfl
  · rcases h.torn with h1 | ⟨h1, _⟩
    · exact h1
    · rw [hl] at h1; cases h1
theorem seg_now (h : Inv fr M σ k op hd Ns ex F X er) (hl : σ.fs.off = false) (j : Nat) (hj : j < k) :
    1 + ((Ns j).flatMap notePages).length ≤ σ.fs.pp ∧ segPages σ.fs (fr + j) = hdr (j + 1) :: ((Ns j).flatMap notePages ++ List.replicate (σ.fs.pp - (1 + ((Ns j).flatMap notePages).length)) FlaM.blank) := by
  obtain ⟨rfl, rfl⟩ := live_hd h hl
  have hk := h.km
  have h1 := h.all j hj
  rw [full_ex] at h1
  have hroom : (onSeg F (k - 1) X j).length ≤ σ.fs.pp := by
    unfold onSeg
    split
    · rename_i hjk
      subst hjk
      rw [List.length_append]
      exact h.phy.roomX
    · exact h.phy.room j (by omega)
  have hlen : (onSeg F (k - 1) X j).length = 1 + ((Ns j).flatMap notePages).length := by rw [h1, List.length_cons, Nat.add_comm]
  refine ⟨by omega, ?_⟩
  have e : segPages σ.fs (fr + j) = padded (onSeg F (k - 1) X j) σ.fs.pp := by
    apply ext_get
    · rw [seg_len, padded_len hroom]
    · intro i hi
      rw [seg_len] at hi
      rw [seg_at hi, padded_at hi]
      exact h.phy.now j i (by omega) hi
  rw [e]
  unfold padded
  rw [hlen, h1]
  rfl
/-- what was appended is read -/
theorem read_ents (h : Inv fr M σ k op hd Ns ex F X er) (hl : σ.fs.off = false) (j : Nat) (hj : j < k) (e : Ent) (he : e ∈ ents (j : Int) 1 (Ns j)) : readL fr σ e.plc = (e.note, 0) := by
  obtain ⟨A, n, B, hN, rfl⟩ := ents_mem _ _ _ _ he
  obtain ⟨hroom, hpages⟩ := seg_now h hl j hj
  have hk := h.km
  have htb : σ.tb.rows.length = M := by rw [h.tb]; exact tab_len _ _ _
  have hg : Good n := h.good j n (by rw [hN]; simp)
  have hpos := notePages_pos n
  rw [hN, List.flatMap_append, List.flatMap_cons, List.length_append, List.length_append] at hroom
  unfold readL
  simp only
  rw [if_neg (by rw [htb]; omega), if_neg (by rw [hl]; decide), Int.toNat_natCast, Int.toNat_natCast, Int.toNat_natCast, hpages, hN, List.flatMap_append, List.flatMap_cons]
  have e1 : ∀ (R : List Bs) (q : Bs), ((q :: (A.flatMap notePages ++ (notePages n ++ B.flatMap notePages) ++ R)).drop (1 + (A.flatMap notePages).length)).take (notePages n).length = notePages n := by
    intro R q
    rw [Nat.add_comm 1, List.drop_succ_cons, List.append_assoc, List.drop_left, List.append_assoc, List.take_left]
  rw [e1, note1_one hg]
  simp
/-- what was appended is found -/
theorem scan_ents (h : Inv fr M σ k op hd Ns ex F X er) (hM : M ≤ 256) (hl : σ.fs.off = false) (j : Nat) (hj : j < k) : scanL fr σ (j : Int) 1 = ((j + 1, ents (j : Int) 1 (Ns j)), 0) := by
  obtain ⟨hroom, hpages⟩ := seg_now h hl j hj
  have hk := h.km
  have htb : σ.tb.rows.length = M := by rw [h.tb]; exact tab_len _ _ _
  have hs := scan_on (fr := fr) (tb := σ.tb) (s := σ.fs) (a := σ.a) htb (by omega) hl j (by omega)
  have hlen := seg_len σ.fs (fr + j)
  obtain ⟨e1, e2⟩ := scan_whole (by omega) (Nat.succ_pos _) (h.good j) (tail_blank _) hpages (j : Int) (σ.fs.pp + 1) (by omega)
  rw [e1, e2, if_neg (Nat.succ_ne_zero j)] at hs
  exact hs
end
end Go.LogM

end
section
namespace Go.Proofs.Ytmdphcebmgcdbaa
open Go.RowKit Go.Own
namespace Lg
open Go.LogM Byt
theorem rangeLater {w w' : World} {b o : Nat} {cs : List Value} (h : w.rangeAt b o cs) (g : Below w.heap.size w w') : w'.rangeAt b o cs := fun j v hv => cellLater (h j v hv) g
/-- entries that lie in memory, with their data -/
structure EntsAt (w : World) (D : Nat → Prop) (ao : Option Addr) (E : List Ent) (gs : List GSl) : Prop where
  len : gs.length = E.length
  sum : ∀ e ∈ E, e.note.sum.length = 32
  at_ : ∀ x (hx : x < E.length) (hg : x < gs.length), (∃ g, ao = some ⟨g, 0, none⟩ ∧ w.rangeAt g (x * 40) (entC E[x] (gslV gs[x]))) ∧ gs[x].2.2 = E[x].note.data ∧ View w D gs[x].1 gs[x].2.2
theorem EntsAt.later {w w' : World} {D : Nat → Prop} {ao : Option Addr} {E : List Ent} {gs : List GSl} (h : EntsAt w D ao E gs) (g : Below w.heap.size w w') : EntsAt w' D ao E gs :=
  ⟨h.len, h.sum, fun x hx hg => by
    obtain ⟨⟨b, h1, h2⟩, h3, h4⟩ := h.at_ x hx hg
    exact ⟨⟨b, h1, rangeLater h2 g⟩, h3, vlater h4 g⟩⟩
end Lg
end Go.Proofs.Ytmdphcebmgcdbaa

end
section
namespace Go.LogM
end Go.LogM
namespace Go.Proofs.Ytmdphcebmgcdbaa
open Go.RowKit Go.Own
namespace Lg
open Go.LogM Byt
structure BackI (w : World) (B m N i : Nat) (σ : LG) (k : Nat) (op hd : Bool) (Ns : Nat → List RecM.Nte) (ex : List LogM.Bs) (F : Nat → List LogM.Bs) (X : List LogM.Bs) (er : Bool) (all : List Ent) (gs : List GSl) : Prop where
  inv : LogM.Inv 1 70 σ k op hd Ns ex F X er
  ok : FlaM.Ok σ.fs N
  live : Live σ.fs
  pp : σ.fs.pp = m
  ki : k ≤ i
  low : 1 + i ≤ N
  all_ : all = entsN Ns k
  few : all.length ≤ i
  notes : NAll w B (all.map (fun e => e.note)) gs
def BackE (w : World) (B m N i : Nat) (σ : LG) (all : List Ent) (gs : List GSl) : Prop := ∃ k op hd Ns ex F X er, BackI w B m N i σ k op hd Ns ex F X er all gs
section
variable {w : World} {B m N i : Nat} {σ : LG} {all : List Ent} {gs : List GSl}
theorem BackE.lg (h : BackE w B m N i σ all gs) : LgOk 1 σ N := by
  obtain ⟨k, op, hd, Ns, ex, F, X, er, h⟩ := h
  exact h.inv.ok (by decide) h.ok (by have := h.ki; have := h.low; omega) (by have := h.low; omega)
theorem BackE.len (h : BackE w B m N i σ all gs) : all.length ≤ i ∧ NAll w B (all.map (fun e => e.note)) gs := by obtain ⟨_, _, _, _, _, _, _, _, h⟩ := h; exact ⟨h.few, h.notes⟩
theorem BackE.append (h : BackE w B m N i σ all gs) (hm : 5 ≤ m) (hm2 : m ≤ 12) (hi : i < 60) (n : RecM.Nte) (hf : RecM.Fits n) (g : GSl) (hg : g.2.2 = n.data) (hv : View w (fun k => k < B) g.1 g.2.2) :
    (appendL 1 σ n = (σ, (zP, 1)) ∧ BackE w B m (N + 7) (i + 1) σ all gs) ∨ (∃ σ' s q ln, appendL 1 σ n = (σ', (⟨((s : Nat) : Int), ((q : Nat) : Int), ((ln : Nat) : Int)⟩, 0)) ∧ s < 70 ∧ q ≤ 12 ∧ ln ≤ 3 ∧ BackE w B m (N + 7) (i + 1) σ' (all ++ [⟨⟨((s : Nat) : Int), ((q : Nat) : Int), ((ln : Nat) : Int)⟩, n⟩]) (gs ++ [g])) := by
  obtain ⟨k, op, hd, Ns, ex, F, X, er, h⟩ := h
  have hki := h.ki
  have hlow := h.low
  by_cases hr : RecM.right n = false
  · exact .inl ⟨append_bad 1 σ hr, k, op, hd, Ns, ex, F, X, er, h.inv, h.ok.more (by omega), h.live, h.pp, by omega, by omega, h.all_, by have := h.few; omega, h.notes⟩
  have hr' : RecM.right n = true := by simpa using hr
  have hn : LogM.Good n := ⟨hf, hr'⟩
  have hfew := notePages_few hf hr'
  obtain ⟨⟨k', op', hd', Ns', ex', F', X', er', q⟩, qok⟩ := inv_append h.inv h.ok hn (by omega) (by rw [h.pp]; omega)
  obtain ⟨h0, hl'⟩ := q.live h.live
  have hlo := q.lo
  have hhi := q.hi
  rcases q.or with ⟨r0, r1, r2, r3, r4, r5, r6⟩ | ⟨r1, _⟩
  · subst r1
    have hk' := q.inv.opn rfl
    rw [h.pp] at r6
    refine .inr ⟨(appendL 1 σ n).1, k' - 1, 1 + ((Ns (k' - 1)).flatMap notePages).length, (notePages n).length, by rw [← r5, ← r0], by omega, by omega, hfew, k', true, hd', Ns', ex', F', X', er', q.inv, qok, hl', q.pp.trans h.pp, by omega, by omega, ?_, ?_, ?_⟩
    · have e1 : entsN Ns k' = entsN Ns k := by
        rcases (show k' = k ∨ k' = k + 1 by omega) with e | e
        · rw [e]
        · rw [e]
          show entsN Ns k ++ ents (k : Int) 1 (Ns k) = _
          rw [(h.inv.new k (Nat.le_refl _)).2]
          exact List.append_nil _
      obtain ⟨j, rfl⟩ : ∃ j, k' = j + 1 := ⟨k' - 1, by omega⟩
      rw [Nat.add_sub_cancel] at r4 ⊢
      rw [h.all_, ← e1, r4]
      show (entsN Ns j ++ ents (j : Int) 1 (Ns j)) ++ _ = entsN (updN Ns j (Ns j ++ [n])) j ++ ents (j : Int) 1 (updN Ns j (Ns j ++ [n]) j)
      have e3 : entsN (updN Ns j (Ns j ++ [n])) j = entsN Ns j := entsN_same j (fun x hx => by unfold updN; rw [if_neg (by omega)])
      rw [e3]
      have e2 : updN Ns j (Ns j ++ [n]) j = Ns j ++ [n] := by unfold updN; rw [if_pos rfl]
      rw [e2, ents_snoc, List.append_assoc]
    · have := h.few
      rw [List.length_append, List.length_singleton]; omega
    · rw [List.map_append]
      exact h.notes.snoc hf.sum hg hv
  · rw [r1] at h0
    cases h0
/-- a Close, with the power on -/
theorem BackE.close (h : BackE w B m N i σ all gs) : (closeL σ).2 = 0 ∧ BackE w B m (N + 1) i (closeL σ).1 all gs ∧ ∃ k Ns, k ≤ i ∧ all = entsN Ns k ∧ ∀ (_ : k ≤ 70), TabM.sealedL (closeL σ).1.tb = List.range k ∧ ∀ j, j < k → scanL 1 (closeL σ).1 (j : Int) 1 = ((j + 1, ents (j : Int) 1 (Ns j)), 0) := by
  obtain ⟨k, op, hd, Ns, ex, F, X, er, h⟩ := h
  obtain ⟨c1, c2, c3, c4⟩ := inv_close h.inv h.ok
  obtain ⟨h0, hl⟩ := c3 h.live
  rcases c2 with ⟨_, hI, _, _⟩ | ⟨h6, _⟩
  · refine ⟨h0, ⟨k, _, _, Ns, _, _, _, _, hI, c4, hl, c1.trans h.pp, h.ki, by have := h.low; omega, h.all_, h.few, h.notes⟩, k, Ns, h.ki, h.all_, fun hk => ⟨?_, fun j hj => scan_ents hI (by decide) hl.1 j hj⟩⟩
    rw [hI.tb]
    exact tab_sealed hk
  · rw [h0] at h6; cases h6
/-- what is read -/
theorem BackE.read (h : BackE w B m N i σ all gs) (hm : m ≤ 12) (e : Ent) (he : e ∈ all) : readL 1 σ e.plc = (e.note, 0) ∧ i64L e.plc.seg ∧ i64L e.plc.page ∧ i64L e.plc.pages := by
  obtain ⟨k, op, hd, Ns, ex, F, X, er, h⟩ := h
  rw [h.all_] at he
  obtain ⟨j, hj, he⟩ := entsN_mem k e he
  refine ⟨read_ents h.inv h.live.1 j hj e he, ?_⟩
  obtain ⟨A, n, C, hN, rfl⟩ := ents_mem _ _ _ _ he
  have h1 := (seg_now h.inv h.live.1 j hj).1
  rw [hN, List.flatMap_append, List.flatMap_cons, List.length_append, List.length_append, h.pp] at h1
  have hk := h.inv.km
  refine ⟨⟨?_, ?_⟩, ⟨?_, ?_⟩, ?_, ?_⟩ <;> simp only <;> omega
end
theorem slot_ent (f : Nat → Value) : Try.prog.builtSlice 72 1 [(0, .agg ((List.range 40).map f).toArray)] = some ((List.range 40).map f).toArray := by kernel_rfl
theorem many_ent : Many Try.prog 68 72 40 104 := ⟨Try.underlying68, by kernel_rfl, by decide⟩
end Lg
end Go.Proofs.Ytmdphcebmgcdbaa

end
section
namespace Go.LogM
end Go.LogM
namespace Go.Proofs.Ytmdphcebmgcdbaa
open Go.RowKit Go.Own
namespace Lg
open Go.LogM Byt
theorem BackE.more {w : World} {B m N N' i : Nat} {σ : LG} {all : List Ent} {gs : List GSl} (h : BackE w B m N i σ all gs) (hN : N ≤ N') : BackE w B m N' i σ all gs := by
  obtain ⟨k, op, hd, Ns, ex, F, X, er, h⟩ := h
  exact ⟨k, op, hd, Ns, ex, F, X, er, h.inv, h.ok.more hN, h.live, h.pp, h.ki, by have := h.low; omega, h.all_, h.few, h.notes⟩
theorem built_ent0 (a b c : Value) (f : Nat → Value) : Try.prog.built 72 [(0, .agg #[a, b, c]), (1, .agg ((List.range 37).map f).toArray)] = some (a :: b :: c :: (List.range 37).map f).toArray := by kernel_rfl
theorem built_ent (p : Plc) (nn : List Value) (h : nn.length = 37) : Try.prog.built 72 [(0, .agg (plcA p)), (1, .agg nn.toArray)] = some (.int .i64 p.seg :: .int .i64 p.page :: .int .i64 p.pages :: nn).toArray := by
  have hrm : (List.range 37).map (fun i => nn.getD i undef) = nn := by
    apply List.ext_getElem
    · simp [h]
    · intro i h1 h2
      simp [List.getD, h2]
  have h := built_ent0 (.int .i64 p.seg) (.int .i64 p.page) (.int .i64 p.pages) (fun i => nn.getD i undef)
  rw [hrm] at h
  exact h
end Lg
end Go.Proofs.Ytmdphcebmgcdbaa

end
section
namespace Go.Proofs.Ytmdphcebmgcdbaa
open Go.RowKit Go.Own
namespace Lg
open Go.LogM Byt
/-- behind i acts: the notes so far (their data: gs), so many of them safe -/
structure PreI (w : World) (B m i : Nat) (σ : LG) (k : Nat) (op hd : Bool) (Ns : Nat → List RecM.Nte) (ex : List LogM.Bs) (F : Nat → List LogM.Bs) (X : List LogM.Bs) (er : Bool) (all : List RecM.Nte) (gs : List GSl) (cnt : Nat) : Prop where
  inv : LogM.Inv 1 70 σ k op hd Ns ex F X er
  ok : FlaM.Ok σ.fs (1 + 8 * i)
  pp : σ.fs.pp = m
  ki : k ≤ i
  all_ : all = allN Ns k
  few : all.length ≤ i
  notes : NAll w B all gs
  safe : Sf cnt k Ns F
section
variable {w : World} {B m i : Nat} {σ : LG} {k : Nat} {op hd : Bool} {Ns : Nat → List RecM.Nte} {ex : List LogM.Bs} {F : Nat → List LogM.Bs} {X : List LogM.Bs} {er : Bool} {all : List RecM.Nte} {gs : List GSl} {cnt : Nat}
theorem PreI.lg (h : PreI w B m i σ k op hd Ns ex F X er all gs cnt) : LgOk 1 σ (1 + 8 * i) := h.inv.ok (by decide) h.ok (by have := h.ki; omega) (by omega)
/-- there is such a state -/
def PreE (w : World) (B m i : Nat) (σ : LG) (all : List RecM.Nte) (gs : List GSl) (cnt : Nat) : Prop := ∃ k op hd Ns ex F X er, PreI w B m i σ k op hd Ns ex F X er all gs cnt
theorem PreE.lg (h : PreE w B m i σ all gs cnt) : LgOk 1 σ (1 + 8 * i) := by obtain ⟨_, _, _, _, _, _, _, _, h⟩ := h; exact h.lg
theorem PreE.len (h : PreE w B m i σ all gs cnt) : all.length ≤ i ∧ NAll w B all gs := by obtain ⟨_, _, _, _, _, _, _, _, h⟩ := h; exact ⟨h.few, h.notes⟩
theorem PreE.more (h : PreE w B m i σ all gs cnt) : PreE w B m (i + 1) σ all gs cnt := by
  obtain ⟨k, op, hd, Ns, ex, F, X, er, h⟩ := h
  exact ⟨k, op, hd, Ns, ex, F, X, er, h.inv, h.ok.more (by omega), h.pp, by have := h.ki; omega, h.all_, by have := h.few; omega, h.notes, h.safe⟩
theorem PreE.append (h : PreE w B m i σ all gs cnt) (hm : 5 ≤ m) (hi : i < 60) (n : RecM.Nte) (hf : RecM.Fits n) (g : GSl) (hg : g.2.2 = n.data) (hv : View w (fun k => k < B) g.1 g.2.2) :
    (appendL 1 σ n = (σ, (zP, 1)) ∧ PreE w B m (i + 1) σ all gs cnt) ∨ (∃ σ' pl, appendL 1 σ n = (σ', (pl, 0)) ∧ PreE w B m (i + 1) σ' (all ++ [n]) (gs ++ [g]) cnt) ∨ (∃ σ' pl, appendL 1 σ n = (σ', (pl, 6)) ∧ PreE w B m (i + 1) σ' all gs cnt) := by
  have hmore := h.more
  obtain ⟨k, op, hd, Ns, ex, F, X, er, h⟩ := h
  by_cases hr : RecM.right n = false
  · exact .inl ⟨append_bad 1 σ hr, hmore⟩
  have hr' : RecM.right n = true := by simpa using hr
  have hn : LogM.Good n := ⟨hf, hr'⟩
  have hfew := notePages_few hf hr'
  have hki := h.ki
  obtain ⟨⟨k', op', hd', Ns', ex', F', X', er', q⟩, qok⟩ := inv_append h.inv h.ok hn (by omega) (by rw [h.pp]; omega)
  have hlo := q.lo
  have hhi := q.hi
  have hall : allN Ns k' = allN Ns k := by
    rcases (show k' = k ∨ k' = k + 1 by omega) with e | e
    · rw [e]
    · rw [e]
      show allN Ns k ++ Ns k = _
      rw [(h.inv.new k (Nat.le_refl _)).2, List.append_nil]
  rcases q.or with ⟨r0, r1, r2, r3, r4, r5, r6⟩ | ⟨r1, r2, r3⟩
  · refine .inr (.inl ⟨(appendL 1 σ n).1, (appendL 1 σ n).2.1, by rw [← r0], k', op', hd', Ns', ex', F', X', er', q.inv, qok.more (by omega), q.pp.trans h.pp, by omega, ?_, ?_, h.notes.snoc hf.sum hg hv, q.sf cnt h.safe⟩)
    · subst r1
      have hk' := q.inv.opn rfl
      have := allN_snoc Ns (k' - 1) n
      rw [Nat.sub_add_cancel hk'] at this
      rw [r4, this, hall, h.all_]
    · have := h.few
      rw [List.length_append, List.length_singleton]; omega
  · subst r3
    exact .inr (.inr ⟨(appendL 1 σ n).1, zP, by rw [← r1], k', op', hd', Ns', ex', F', X', er', q.inv, qok.more (by omega), q.pp.trans h.pp, by omega, by rw [hall]; exact h.all_, by have := h.few; omega, h.notes, q.sf cnt h.safe⟩)
theorem PreE.close (h : PreE w B m i σ all gs cnt) : ((closeL σ).2 = 0 ∧ PreE w B m (i + 1) (closeL σ).1 all gs all.length) ∨ ((closeL σ).2 = 6 ∧ PreE w B m (i + 1) (closeL σ).1 all gs cnt) := by
  obtain ⟨k, op, hd, Ns, ex, F, X, er, h⟩ := h
  have hki := h.ki
  have hfew := h.few
  obtain ⟨c1, c2, c3, c4⟩ := inv_close h.inv h.ok
  rcases c2 with ⟨h0, hI, _, _⟩ | ⟨h6, _, _, hI⟩
  · refine .inl ⟨h0, k, false, true, Ns, [], _, [], false, hI, c4.more (by omega), c1.trans h.pp, by omega, h.all_, by omega, h.notes, ?_⟩
    rw [h.all_, allN_len]
    exact sf_all hI
  · exact .inr ⟨h6, k, op, hd, Ns, ex, F, X, er, hI, c4.more (by omega), c1.trans h.pp, by omega, h.all_, by omega, h.notes, h.safe⟩
theorem PreE.barrier (h : PreE w B m i σ all gs cnt) : ((FlaM.barrier σ.fs).2 = 0 ∧ PreE w B m (i + 1) ⟨(FlaM.barrier σ.fs).1, σ.tb, σ.a⟩ all gs all.length) ∨ ((FlaM.barrier σ.fs).2 = 6 ∧ PreE w B m (i + 1) ⟨(FlaM.barrier σ.fs).1, σ.tb, σ.a⟩ all gs cnt) := by
  obtain ⟨k, op, hd, Ns, ex, F, X, er, h⟩ := h
  have hki := h.ki
  have hfew := h.few
  have okb := FlaM.ok_barrier h.ok
  obtain ⟨hor, hpp⟩ := inv_barrier h.inv h.ok
  rcases hor with ⟨h0, F', hI⟩ | ⟨h6, hI⟩
  · refine .inl ⟨h0, k, op, true, Ns, [], F', [], false, hI, okb.more (by omega), hpp.trans h.pp, by omega, h.all_, by omega, h.notes, ?_⟩
    rw [h.all_, allN_len]
    exact sf_all hI
  · exact .inr ⟨h6, k, op, hd, Ns, ex, F, X, er, hI, okb.more (by omega), hpp.trans h.pp, by omega, h.all_, by omega, h.notes, h.safe⟩
end
theorem pre_new (w : World) (B m : Nat) (hm : 2 ≤ m ∧ m ≤ 64) (after : Int) (ha : i64L after) : PreE w B m 0 ⟨FlaM.cut (sNew 70 m).fs after, (sNew 70 m).tb, (sNew 70 m).a⟩ [] [] 0 := by
  obtain ⟨hI, hok, _, hpp⟩ := new_inv m hm
  obtain ⟨hI2, hpp2⟩ := inv_cut hI after
  exact ⟨0, _, _, _, _, _, _, _, hI2, FlaM.ok_cut hok after ha.2, hpp2.trans hpp, Nat.le_refl _, rfl, Nat.le_refl _, NAll.nil _ _, 0, Nat.zero_le _, Nat.zero_le _, fun h => absurd h (Nat.lt_irrefl _)⟩
end Lg
end Go.Proofs.Ytmdphcebmgcdbaa

end
section
namespace Go.LogM
def totF (f : Nat → List RecM.Nte) : Nat → Nat
  | 0 => 0
  | j + 1 => totF f j + (f j).length
theorem allN_at (Ns : Nat → List RecM.Nte) : ∀ (k j x : Nat), j < k → x < (Ns j).length → (allN Ns k)[tot Ns j + x]? = (Ns j)[x]?
  | 0, j, x, h, _ => absurd h (Nat.not_lt_zero _)
  | k + 1, j, x, h, hx => by
    unfold allN
    rcases Nat.lt_or_ge j k with hj | hj
    · have ih := allN_at Ns k j x hj hx
      have hl : tot Ns j + x < (allN Ns k).length := by
        rw [List.getElem?_eq_getElem hx] at ih
        exact (List.getElem?_eq_some_iff.1 ih).1
      rw [List.getElem?_append_left hl, ih]
    · have e : j = k := by omega
      subst e
      rw [List.getElem?_append_right (by rw [allN_len]; omega), allN_len, show tot Ns j + x - tot Ns j = x by omega]
theorem totF_found (k : Nat) (Ns : Nat → List RecM.Nte) (m : Nat) : ∀ j, j + 1 ≤ k → totF (foundAt k Ns m) j = tot Ns j
  | 0, _ => rfl
  | j + 1, h => by
    unfold totF tot
    rw [totF_found k Ns m j (by omega)]
    unfold foundAt
    rw [if_pos (by omega)]
theorem crash_len {s : FlaM.FS} {N : Nat} (ok : FlaM.Ok s N) (fates : List Int) : (FlaM.crash s fates).safe.length = s.safe.length :=
  (FlaM.shape_all fates s.L s.safe 0 ok.shape ok.acts).len
end Go.LogM
namespace Go.Proofs.Ytmdphcebmgcdbaa
open Go.RowKit Go.Own
namespace Lg
open Go.LogM Byt
/-- what the laws ask of a log behind a crash: seqs, found: what a scan of each segment tells -/
structure Found (σ : LG) (N k : Nat) (all : List RecM.Nte) (cnt : Nat) (seqs : Nat → Nat) (found : Nat → List RecM.Nte) : Prop where
  k70 : k ≤ 70
  next : σ.tb.next = k + 1
  lg : LgOk 1 σ N
  scan : ∀ j : Nat, j < 70 → scanL 1 σ (j : Int) 1 = ((seqs j, ents (j : Int) 1 (found j)), 0)
  seq : ∀ j, seqs j = 0 ∨ seqs j = j + 1
  zero : ∀ j, seqs j = 0 → found j = []
  at_ : ∀ j x, j < k → x < (found j).length → totF found j + x < all.length ∧ all[totF found j + x]? = (found j)[x]?
  cnt : cnt ≤ totF found k
theorem PreE.crash {w : World} {B m i : Nat} {σ : LG} {all : List RecM.Nte} {gs : List GSl} {cnt : Nat} (h : PreE w B m i σ all gs cnt) (hi : i ≤ 60) (fates : List Int) :
    ∃ k seqs found, Found ⟨FlaM.crash σ.fs fates, σ.tb, σ.a⟩ (2 + 8 * i) k all cnt seqs found := by
  have hlg := h.lg
  obtain ⟨k, op, hd, Ns, ex, F, X, er, h⟩ := h
  obtain ⟨mm, hok, h1, h2, h3, h4⟩ := scan_crash h.inv h.ok (by decide) fates
  have hki := h.ki
  refine ⟨k, seqAt k hok, foundAt k Ns mm, by omega, ?_, ?_, h4, ?_, ?_, ?_, ?_⟩
  · show σ.tb.next = k + 1
    rw [h.inv.tb]; rfl
  · refine ⟨(FlaM.ok_crash h.ok fates).more (by omega), hlg.tb.more (by omega), ?_, hlg.pp, hlg.a, hlg.load⟩
    show 1 + σ.tb.rows.length ≤ (FlaM.crash σ.fs fates).safe.length
    rw [crash_len h.ok]
    exact hlg.room
  · intro j
    unfold seqAt
    split
    · exact .inr rfl
    · exact .inl rfl
  · intro j hj
    unfold seqAt at hj
    split at hj
    · cases hj
    · rename_i hc
      unfold foundAt
      rw [if_neg (fun hh => hc (.inl hh))]
      split
      · rename_i hjk
        cases hok
        · rw [h2 rfl]; rfl
        · exact absurd (Or.inr ⟨hjk, rfl⟩) hc
      · rfl
  · intro j x hj hx
    rw [totF_found k Ns mm j (by omega)]
    have hx2 : x < (Ns j).length ∧ (foundAt k Ns mm j)[x]? = (Ns j)[x]? := by
      unfold foundAt at hx ⊢
      split at hx
      · rename_i hc
        rw [if_pos hc]; exact ⟨hx, rfl⟩
      · rename_i hc
        split at hx
        · rename_i hc2
          rw [if_neg hc, if_pos hc2]
          rw [List.length_take] at hx
          exact ⟨by omega, List.getElem?_take_of_lt (by omega)⟩
        · simp at hx
    have e := allN_at Ns k j x hj hx2.1
    rw [← h.all_] at e
    refine ⟨?_, by rw [e, hx2.2]⟩
    rw [List.getElem?_eq_getElem hx2.1] at e
    exact (List.getElem?_eq_some_iff.1 e).1
  · have := h3 cnt h.safe
    rcases Nat.eq_zero_or_pos k with hk0 | hk0
    · subst hk0
      rw [tot_zero (h.inv.zero rfl), h.inv.zero rfl] at *
      simp at h1
      show cnt ≤ 0
      omega
    · obtain ⟨k1, rfl⟩ : ∃ k1, k = k1 + 1 := ⟨k - 1, by omega⟩
      rw [Nat.add_sub_cancel] at h1 this
      unfold totF
      rw [totF_found (k1 + 1) Ns mm k1 (by omega)]
      unfold foundAt
      rw [if_neg (by omega), if_pos rfl, List.length_take]
      omega
end Lg
end Go.Proofs.Ytmdphcebmgcdbaa

end
section
namespace Go.Proofs.Ytmdphcebmgcdbaa
open Go.RowKit Go.Own
namespace Lg
open Go.LogM Byt
set_option maxRecDepth 10000 in
set_option maxHeartbeats 64000000 in
theorem walk_prefix {w : World} {FK : Fla.Kept w} {TK : Tab.Kept w} (K : Kept w FK TK) (a0 : Option Addr) (len0 cap0 : Nat) (l : List ActD) (p0 : Nat) (hp0 : p0 ≤ 255) (cut : Int) (hcut : i64L cut) (a3 : Option Addr) (len3 cap3 : Nat) (fates : List Int) (w0 : inSlice 44 inAct l w.heap.size w [.slice a0 len0 cap0]) (w3 : inSlice 1 (inInt .i64) fates w.heap.size w [.slice a3 len3 cap3]) :
    Calls Try.prog 4 #[.slice a0 len0 cap0, .int .u8 (p0 : Int), .int .i64 cut, .slice a3 len3 cap3] w (RetYes w) := by
  obtain ⟨hlen, hcap, hmax, _, hat⟩ := acts_in w0
  have SH := Lib.hid (shown_any K (Below.refl _ _))
  have HF : Hid (∀ wx, Below w.heap.size w wx → Calls Try.prog 16 #[.slice a0 len0 cap0] wx fun e w' => e = .returned (.slice a0 (fewN l) cap0) ∧ w' = wx) := fun wx hwx => few_any w0 wx (fun k hk => hwx.block k hk)
  have HAT := Lib.hid hat
  have HLEN := Lib.hid hlen
  have hmax2 : cap0 ≤ 9223372036854775807 := by unfold maxLen at hmax; omega
  obtain ⟨m0, hm0⟩ : ∃ n, n = p0 % 8 := ⟨_, rfl⟩
  obtain ⟨m, hm⟩ : ∃ n, n = m0 + 5 := ⟨_, rfl⟩
  have e3 : (p0 : Int) % 8 = (m0 : Int) := by omega
  have e4 : (m0 : Int) + 5 = (m : Int) := by omega
  have hm8 : 5 ≤ m ∧ m ≤ 12 := by omega
  have hm07 : m0 ≤ 7 := by omega
  have hN := new_inv m (by omega)
  have CB : Hid (∀ wx, Below w.heap.size w wx → Calls Try.prog 14 #[.int .i64 70, .int .i64 (m : Int)] wx fun e w' => ∃ p pf pt, e = .returned (.tuple #[ptr p, ptr pf, ptr pt, .bool true]) ∧ LSt K w.heap.size w w' p pf pt 1 (sNew 70 m) []) := fun wx hwx => built_any K 70 m (by decide) (by omega) (Below.refl _ _) (Nat.le_refl _) ((Own.St.start w).later hwx)
  have CC : Hid (∀ p pf pt wx, LSt K w.heap.size w wx p pf pt 1 (sNew 70 m) [] → Calls Try.prog 15 #[ptr pf, .int .i64 cut] wx fun e w' => e = .returned (.tuple #[]) ∧ LSt K w.heap.size w w' p pf pt 1 ⟨FlaM.cut (sNew 70 m).fs cut, (sNew 70 m).tb, (sNew 70 m).a⟩ []) := fun p pf pt wx h => cut_lst (Below.refl _ _) (Nat.le_refl _) h hN.2.1 (by decide) cut hcut
  have I0 := Lib.hid (pre_new w w.heap.size m (by omega) cut hcut)
  have FT : Hid (∀ wx, Below w.heap.size w wx → w.heap.size ≤ wx.heap.size → Fla.LiesI w.heap.size wx [] a3 len3 cap3 fates) := fun wx h1 h2 => fates_in w3 (fun k hk => h1.block k hk) h2
  obtain ⟨kf, hkf⟩ : ∃ k, k = fewN l := ⟨_, rfl⟩
  have hkf1 : kf ≤ l.length := by rw [hkf]; exact fewF_le l 0
  have hkf2 : kf ≤ 60 := by rw [hkf]; exact fewF_most l 0 (by decide)
  have HK3 : Hid (∀ i (hi : i < l.length), i < kf → l[i].n.data.length ≤ 1000) := fun i hi h => fewF_short l 0 i hi (by rw [hkf] at h; exact h)
  rw [← hkf] at HF
  obtain ⟨σ0, hσ0⟩ : ∃ s : LG, s = ⟨FlaM.cut (sNew 70 m).fs cut, (sNew 70 m).tb, (sNew 70 m).a⟩ := ⟨_, rfl⟩
  rw [← hσ0] at I0 CC
  clear hat hlen w0 hmax hm0 hm hN hkf w3 hσ0
  go_enter Try.func4, Try.ntmps4
  go_wp2_with (fail)
  refine SH.out.mono ?_
  clear SH
  rintro e w1 ⟨rfl, h1⟩
  have CB1 := Lib.hid (CB.out w1 h1)
  clear h1 CB
  go_wp2_with (fail)
  refine CB1.out.mono ?_
  clear CB1
  rintro e w2 ⟨p, pf, pt, rfl, h2⟩
  have CC1 := Lib.hid (CC.out p pf pt w2 h2)
  clear h2 CC
  go_wp2_with (fail)
  refine CC1.out.mono ?_
  clear CC1
  rintro e w3 ⟨rfl, h3⟩
  have H3 := Lib.hid (third (h3.rowFresh (e := 58) (size := 37)))
  clear h3
  go_wp2_with (fail)
  refine (HF.out w3 H3.out.below).mono ?_
  clear HF
  rintro e w4 ⟨rfl, rfl⟩
  go_wp2
  go_loopw [15, 16, 50] (fun v15 v16 v50 wr => ∃ (i cnt : Nat) (σ : LG) (all : List RecM.Nte) (gs : List GSl), i ≤ kf ∧ cnt ≤ 60 ∧ v50 = .int .i64 (i : Int) ∧ v16 = .int .i64 (cnt : Int) ∧ LSt K w.heap.size w wr p pf pt 1 σ [ARow 58 37 v15 all.length (notesC all gs)] ∧ PreE w w.heap.size m i σ all gs cnt) (fun _ _ v _ => kf - (intOf v).toNat)
  case atStart => exact ⟨0, 0, σ0, [], [], Nat.zero_le _, Nat.zero_le _, rfl, rfl, H3.out, I0.out⟩
  case round =>
    obtain ⟨i, cnt, σ, all, gs, hik, hcnt, rfl, rfl, hH, hPE⟩ := hrel
    have H := Lib.hid hH
    have PE := Lib.hid hPE
    obtain ⟨aA, cA, rfl⟩ := hH.rowForm 3 rfl
    clear hH hPE H3 I0
    by_cases hi : (i : Int) < (kf : Int)
    · have hik2 : i < kf := by omega
      have hil : i < l.length := by omega
      obtain ⟨b, o, rfl, hb, hact⟩ := HAT.out (by intro e; rw [e] at hil; simp at hil)
      obtain ⟨ad, cd, af, nf, cf, hrng, hain⟩ := hact wr (fun k hk => H.out.below.block k hk) i hil
      obtain ⟨a, ha⟩ : ∃ a, a = l[i] := ⟨_, rfl⟩
      have hd1000 : a.n.data.length ≤ 1000 := by rw [ha]; exact HK3.out i hil hik2
      have hold : View w (fun k => k < w.heap.size) ad a.n.data := by
        obtain ⟨b', o', hao, _, hall⟩ := HAT.out (by intro e; rw [e] at hil; simp at hil)
        rw [← ha] at hain
        exact hain.view.same (fun k hk => (H.out.below.block k hk).symm)
      rw [← ha] at hrng hain
      obtain ⟨nd, hnd⟩ : ∃ n, n = a.n.data.length := ⟨_, rfl⟩
      have hRA := act_round H.out hain.fits.sum hrng
      rw [← hnd] at hRA
      obtain ⟨vs, hvs⟩ : ∃ v, v = actC a (.slice ad nd cd) (.slice af nf cf) := ⟨_, rfl⟩
      rw [← hvs] at hRA
      have RA := Lib.hid hRA
      obtain ⟨b5, hb5⟩ : ∃ b, b = wr.heap.size := ⟨_, rfl⟩
      obtain ⟨W1, hW1⟩ : ∃ W, W = wr.alloc (.cells zAct.toArray 62) := ⟨_, rfl⟩
      obtain ⟨W2, hW2⟩ : ∃ W, W = W1.setCells b5 0 vs.toArray.toList := ⟨_, rfl⟩
      have hst := hRA.st
      rw [← hb5, ← hW1, ← hW2] at hst
      have TH := Lib.hid hRA.there
      rw [← hb5, ← hW1] at TH
      have hst3 := third hst
      have H2 := Lib.hid hst3
      have NT : Hid (∀ wx Ps, LSt K w.heap.size w wx p pf pt 1 σ (AVals b5 62 vs :: Ps) → wx.rangeAt b5 1 (Rec.ntC a.n (.slice ad nd cd))) := fun wx Ps hx j v hv => (hx.cellV 3 rfl (1 + j) (by rw [hvs]; exact actC_note a _ _ j v hv)).1
      have c0 : W2.cell? ⟨b5, 0, none⟩ = some (.int .u8 (a.kind.toNat : Int)) := (hst3.cellV 3 rfl 0 (by rw [hvs]; rfl)).1
      obtain ⟨r, hr⟩ : ∃ r, r = a.kind.toNat % 9 := ⟨_, rfl⟩
      have hri : (a.kind.toNat : Int) % 9 = (r : Int) := by omega
      have hr9 : r < 9 := by omega
      have hk8 : a.kind.toNat ≤ 255 := by have := a.kind.toNat_lt; omega
      have ZA := Lib.hid zero_act
      have HB5 := Lib.hid hb5
      have HW1 := Lib.hid hW1
      have HW2 := Lib.hid hW2
      have PL := PE.out.len
      have BAR : Hid (Calls Try.prog 17 #[ptr pf] W2 fun e w' => e = .returned (errL (FlaM.barrier σ.fs).2) ∧ LSt K w.heap.size w w' p pf pt 1 ⟨(FlaM.barrier σ.fs).1, σ.tb, σ.a⟩ [AVals b5 62 vs, ARow 58 37 (.slice aA all.length cA) all.length (notesC all gs)]) := barrier_lst (Below.refl _ _) (Nat.le_refl _) hst3 PE.out.lg.fs (by omega)
      have CLO : Hid (Calls Try.prog 18 #[ptr p] W2 fun e w' => e = .returned (errL (closeL σ).2) ∧ LSt K w.heap.size w w' p pf pt 1 (closeL σ).1 [AVals b5 62 vs, ARow 58 37 (.slice aA all.length cA) all.length (notesC all gs)]) := K.close hst3.below hst3 PE.out.lg (by omega)
      have hal60 : all.length ≤ 60 := by have := PL.1; omega
      obtain ⟨na, hna⟩ : ∃ n, n = all.length := ⟨_, rfl⟩
      have HNA := Lib.hid hna
      by_cases h6 : r = 6
      · have g0 : ((r : Int) == 6) = true := by simp [h6]
        have hPB := PE.out.barrier
        generalize FlaM.barrier σ.fs = rb at BAR hPB
        obtain ⟨er, her⟩ : ∃ e, e = rb.2 := ⟨_, rfl⟩
        rw [← her] at BAR hPB
        rw [← hna] at BAR hal60 ⊢
        have HPB := Lib.hid hPB
        clear hact hrng hain ha hnd hRA hvs hb5 hW1 hW2 hst hst3 H hr CLO PE hPB hna PL NT hold her h6
        go_wp2_with (first
          | (refine wpList_load_mid rfl 62 (.tmp 52) rfl b (o + i * 44) rfl vs _ RA.out.range Try.underlying62 rfl RA.out.info ?_)
          | (refine Own.wpList_allocZ rfl 62 rfl zAct.toArray ZA.out ?_; rw [← HB5.out, ← HW1.out])
          | (refine wpList_store_mid rfl 62 (.tmp 18) (.tmp 53) rfl b5 0 vs.toArray rfl rfl TH.out RA.out.info2 RA.out.one ?_; rw [← HW2.out]))
        refine BAR.out.mono ?_
        clear BAR RA TH c0
        rintro e w6 ⟨rfl, h6⟩
        have H6 := Lib.hid ((h6.front 3 rfl).drop 1)
        clear h6 H2
        rcases HPB.out with ⟨h0, hPE⟩ | ⟨h0, hPE⟩
        · subst h0
          have PE2 := Lib.hid hPE
          clear HPB hPE
          go_wp2_with (fail)
          go_roundw
          case rel =>
            refine ⟨i + 1, na, ⟨rb.1, σ.tb, σ.a⟩, all, gs, by omega, hal60, by go_num, rfl, ?_, ?_⟩
            · have h := H6.out
              rw [HNA.out] at h
              rw [HNA.out]
              exact h
            · rw [HNA.out]; exact PE2.out
          case measure => simp [intOf]; omega
        · subst h0
          have PE2 := Lib.hid hPE
          clear HPB hPE
          go_wp2_with (fail)
          go_roundw
          case rel =>
            refine ⟨i + 1, cnt, ⟨rb.1, σ.tb, σ.a⟩, all, gs, by omega, hcnt, by go_num, rfl, ?_, PE2.out⟩
            have h := H6.out
            rw [HNA.out] at h
            rw [HNA.out]
            exact h
          case measure => simp [intOf]; omega
      · by_cases h3 : r = 3
        · have g0 : ((r : Int) == 6) = false := by simp; omega
          have g1 : ((r : Int) == 3) = true := by simp [h3]
          have hPB := PE.out.close
          generalize closeL σ = rb at CLO hPB
          obtain ⟨er, her⟩ : ∃ e, e = rb.2 := ⟨_, rfl⟩
          rw [← her] at CLO hPB
          rw [← hna] at CLO hal60 ⊢
          have HPB := Lib.hid hPB
          clear hact hrng hain ha hnd hRA hvs hb5 hW1 hW2 hst hst3 H hr BAR PE hPB hna PL NT hold her h6 h3
          go_wp2_with (first
            | (refine wpList_load_mid rfl 62 (.tmp 52) rfl b (o + i * 44) rfl vs _ RA.out.range Try.underlying62 rfl RA.out.info ?_)
            | (refine Own.wpList_allocZ rfl 62 rfl zAct.toArray ZA.out ?_; rw [← HB5.out, ← HW1.out])
            | (refine wpList_store_mid rfl 62 (.tmp 18) (.tmp 53) rfl b5 0 vs.toArray rfl rfl TH.out RA.out.info2 RA.out.one ?_; rw [← HW2.out]))
          refine CLO.out.mono ?_
          clear CLO RA TH c0
          rintro e w6 ⟨rfl, h6⟩
          have H6 := Lib.hid ((h6.front 3 rfl).drop 1)
          clear h6 H2
          rcases HPB.out with ⟨h0, hPE⟩ | ⟨h0, hPE⟩
          · subst h0
            have PE2 := Lib.hid hPE
            clear HPB hPE
            go_wp2_with (fail)
            go_roundw
            case rel =>
              refine ⟨i + 1, na, rb.1, all, gs, by omega, hal60, by go_num, rfl, ?_, ?_⟩
              · have h := H6.out
                rw [HNA.out] at h
                rw [HNA.out]
                exact h
              · rw [HNA.out]; exact PE2.out
            case measure => simp [intOf]; omega
          · subst h0
            have PE2 := Lib.hid hPE
            clear HPB hPE
            go_wp2_with (fail)
            go_roundw
            case rel =>
              refine ⟨i + 1, cnt, rb.1, all, gs, by omega, hcnt, by go_num, rfl, ?_, PE2.out⟩
              have h := H6.out
              rw [HNA.out] at h
              rw [HNA.out]
              exact h
            case measure => simp [intOf]; omega
        · have g0 : ((r : Int) == 6) = false := by simp; omega
          have g1 : ((r : Int) == 3) = false := by simp; omega
          have hap := PE.out.append hm8.1 (by omega) a.n hain.fits (ad, cd, a.n.data) rfl hold
          have CA := K.append a.n ad nd cd hst3.below hst3 PE.out.lg (by omega) hain.fits (by
            have hv : View W2 (fun k => k < w.heap.size) ad a.n.data := hold.same (fun k hk => hst3.below.block k hk)
            rw [hnd]
            exact ⟨⟨hv.mono (fun k hk => Nat.lt_of_lt_of_le hk hst3.size), rfl, hain.room, hain.nil⟩, .inr hv⟩) (by omega)
          obtain ⟨nn, hnn⟩ : ∃ x, x = Rec.ntC a.n (.slice ad nd cd) := ⟨_, rfl⟩
          have hng : nn = Rec.ntC a.n (gslV (ad, cd, a.n.data)) := by rw [hnn, hnd]; rfl
          have NL : Hid (nn.length = 37) := by show _ = _; rw [hnn]; exact Rec.ntC_len _ _ hain.fits.sum
          have NO : Hid (∀ u ∈ nn, u.oneCell' = true) := by rw [hnn]; exact Rec.ntC_one rfl
          have IN := Lib.hid (Rec.info_note nn NL.out)
          rw [show Rec.ntV a.n (.slice ad nd cd) = .agg nn.toArray by rw [hnn]] at CA
          have NT1 : Hid (W2.rangeAt b5 1 nn) := by have := NT.out W2 _ hst3; rw [← hnn] at this; exact this
          have HNG := Lib.hid hng
          have hsn : ∀ wx, (Instr.buildSlice 48 1 #[(0, .agg nn.toArray)]).run Try.prog wx = .ok (.slice (some ⟨wx.heap.size, 0, none⟩) 1 1) (wx.alloc (.cells nn.toArray 58)) := fun wx => run_slot_one Try.underlying48 slot_note nn NL.out wx
          have HSN := Lib.hid hsn
          have PL2 := Lib.hid PL.2.len
          rcases hap with ⟨hap, hPE⟩ | ⟨σ', pl, hap, hPE⟩ | ⟨σ', pl, hap, hPE⟩
          · rw [hap] at CA
            have CA1 := Lib.hid CA
            have PE2 := Lib.hid hPE
            clear hact hrng hain ha hnd hRA hvs hb5 hW1 hW2 hst hst3 CA hnn hng H hap hPE hr CLO BAR PE PL NT hold hna hsn HSN h6 h3
            go_wp2_with (first
              | (refine wpList_load_mid rfl 62 (.tmp 52) rfl b (o + i * 44) rfl vs _ RA.out.range Try.underlying62 rfl RA.out.info ?_)
              | (refine Own.wpList_allocZ rfl 62 rfl zAct.toArray ZA.out ?_; rw [← HB5.out, ← HW1.out])
              | (refine wpList_store_mid rfl 62 (.tmp 18) (.tmp 53) rfl b5 0 vs.toArray rfl rfl TH.out RA.out.info2 RA.out.one ?_; rw [← HW2.out])
              | (refine wpList_load_mid rfl 58 (.tmp 74) rfl b5 1 rfl nn _ NT1.out Try.underlying58 rfl IN.out ?_))
            refine CA1.out.mono ?_
            clear CA1 RA TH NT1 c0
            rintro e w6 ⟨rfl, h6⟩
            have H6 := Lib.hid (((h6.front 3 rfl).drop 1).alloc (.cells #[.int .i64 0, .int .i64 0, .int .i64 0] 60))
            clear h6 H2
            go_wp2_with (fail)
            go_roundw
            case rel => exact ⟨i + 1, cnt, σ, all, gs, by omega, hcnt, by go_num, rfl, H6.out, PE2.out⟩
            case measure => simp [intOf]; omega
          · rw [hap] at CA
            have CA1 := Lib.hid CA
            have PE2 := Lib.hid hPE
            have NT2 : Hid (∀ wx σx Ps, LSt K w.heap.size w wx p pf pt 1 σx (AVals b5 62 vs :: Ps) → wx.rangeAt b5 1 nn) := fun wx σx Ps hx j v hv => (hx.cellV 3 rfl (1 + j) (by rw [hvs]; rw [hnn] at hv; exact actC_note a _ _ j v hv)).1
            clear hact hrng hain ha hnd hRA hvs hb5 hW1 hW2 hst hst3 CA hnn hng H hap hPE hr CLO BAR PE PL NT hold hna hsn h6 h3
            go_wp2_with (first
              | (refine wpList_load_mid rfl 62 (.tmp 52) rfl b (o + i * 44) rfl vs _ RA.out.range Try.underlying62 rfl RA.out.info ?_)
              | (refine Own.wpList_allocZ rfl 62 rfl zAct.toArray ZA.out ?_; rw [← HB5.out, ← HW1.out])
              | (refine wpList_store_mid rfl 62 (.tmp 18) (.tmp 53) rfl b5 0 vs.toArray rfl rfl TH.out RA.out.info2 RA.out.one ?_; rw [← HW2.out])
              | (refine wpList_load_mid rfl 58 (.tmp 74) rfl b5 1 rfl nn _ NT1.out Try.underlying58 rfl IN.out ?_))
            refine CA1.out.mono ?_
            clear CA1 RA TH NT1 c0
            rintro e w6 ⟨rfl, h6⟩
            have h7 := h6.alloc (.cells (plcA pl) 60)
            have R7 : Hid ((w6.alloc (.cells (plcA pl) 60)).rangeAt b5 1 nn) := NT2.out _ _ _ h7
            have h8 := (((h7.front 3 rfl).drop 1).boxV 58 nn)
            obtain ⟨b8, hb8⟩ : ∃ b, b = (w6.alloc (.cells (plcA pl) 60)).heap.size := ⟨_, rfl⟩
            have HB8 := Lib.hid hb8
            rw [← hb8] at h8
            have H8 := Lib.hid h8
            have HC : Hid (∀ a', some (⟨b8, 0, none⟩ : Addr) = some a' → ∀ j u, nn[j]? = some u → ((w6.alloc (.cells (plcA pl) 60)).alloc (.cells nn.toArray 58)).cell? (a'.add j) = some u) := by
              intro a' ha' j u hu
              cases ha'
              rw [add_of, Nat.zero_add]
              exact (h8.cellV 0 rfl j hu).1
            have NL1 : Hid (nn.length = 1 * 37) := NL.out
            clear h6 H2 h7 h8 NT2 hb8
            go_wp2_with (first
              | (refine wpList_load_mid rfl 58 (.tmp 92) rfl b5 1 rfl nn _ R7.out Try.underlying58 rfl IN.out ?_)
              | (refine wpList_slot_one rfl 48 (.tmp 93) rfl nn 58 rfl (HSN.out _) ?_; rw [← HB8.out])
              | (at_builtin; refine wpList_many_append many_note rfl (.tmp 91) (.tmp 94) rfl H8.out 4 rfl rfl (some ⟨b8, 0, none⟩) 1 1 nn rfl (by intro h; cases h) NL1.out HC.out NO.out (by omega) (by decide) ?_; intro a9 c9 w9 h9; have H9 := Lib.hid (h9.drop 1); clear h9))
            go_roundw
            case rel =>
              refine ⟨i + 1, cnt, σ', all ++ [a.n], gs ++ [(ad, cd, a.n.data)], by omega, hcnt, by go_num, rfl, ?_, PE2.out⟩
              rw [notesC_snoc _ _ PL2.out, ← HNG.out, List.length_append, List.length_singleton]
              exact H9.out
            case measure => simp [intOf]; omega
          · rw [hap] at CA
            have CA1 := Lib.hid CA
            have PE2 := Lib.hid hPE
            clear hact hrng hain ha hnd hRA hvs hb5 hW1 hW2 hst hst3 CA hnn hng H hap hPE hr CLO BAR PE PL NT hold hna hsn HSN h6 h3
            go_wp2_with (first
              | (refine wpList_load_mid rfl 62 (.tmp 52) rfl b (o + i * 44) rfl vs _ RA.out.range Try.underlying62 rfl RA.out.info ?_)
              | (refine Own.wpList_allocZ rfl 62 rfl zAct.toArray ZA.out ?_; rw [← HB5.out, ← HW1.out])
              | (refine wpList_store_mid rfl 62 (.tmp 18) (.tmp 53) rfl b5 0 vs.toArray rfl rfl TH.out RA.out.info2 RA.out.one ?_; rw [← HW2.out])
              | (refine wpList_load_mid rfl 58 (.tmp 74) rfl b5 1 rfl nn _ NT1.out Try.underlying58 rfl IN.out ?_))
            refine CA1.out.mono ?_
            clear CA1 RA TH NT1 c0
            rintro e w6 ⟨rfl, h6⟩
            have H6 := Lib.hid (((h6.front 3 rfl).drop 1).alloc (.cells (plcA pl) 60))
            clear h6 H2
            go_wp2_with (fail)
            go_roundw
            case rel => exact ⟨i + 1, cnt, σ', all, gs, by omega, hcnt, by go_num, rfl, H6.out, PE2.out⟩
            case measure => simp [intOf]; omega
    · have hik3 : i = kf := by omega
      subst hik3
      have hal60 : all.length ≤ 60 := by have := PE.out.len.1; omega
      obtain ⟨k, seqs, found, hFD⟩ := PE.out.crash hkf2 fates
      have FD := Lib.hid hFD
      have NA := Lib.hid PE.out.len.2
      obtain ⟨σc, hσc⟩ : ∃ s : LG, s = ⟨FlaM.crash σ.fs fates, σ.tb, σ.a⟩ := ⟨_, rfl⟩
      rw [← hσc] at FD
      have CR : Hid (Calls Try.prog 20 #[ptr pf, .slice a3 len3 cap3] wr fun e w' => e = .returned (.tuple #[]) ∧ LSt K w.heap.size w w' p pf pt 1 σc [ARow 58 37 (.slice aA all.length cA) all.length (notesC all gs)]) := by
        rw [hσc]
        exact crash_lst (Below.refl _ _) (Nat.le_refl _) H.out PE.out.lg.fs (by omega) a3 len3 cap3 fates (FT.out wr H.out.below H.out.size)
      have CN : Hid (∀ wx Ps, LSt K w.heap.size w wx p pf pt 1 σc Ps → Calls Try.prog 21 #[ptr pt] wx fun e w' => e = .returned (.int .u64 ((k + 1 : Nat) : Int)) ∧ Below wx.heap.size wx w') := fun wx Ps hx => by
        have c := TK.next hx.below (hx.front 2 rfl) FD.out.lg.tb (by omega)
        rw [FD.out.next] at c
        exact c
      have CS : Hid (∀ (j : Nat) wx Ps, j < 70 → LSt K w.heap.size w wx p pf pt 1 σc Ps → Calls Try.prog 22 #[ptr p, .int .i64 (j : Int), .int .i64 1] wx fun e w' => ∃ (v : Value) (gs : List GSl), gs.map (fun g => g.2.2) = (found j).map (fun n => n.data) ∧ e = .returned (.tuple #[.int .u64 (seqs j : Int), v, errL 0]) ∧
          LSt K w.heap.size w w' p pf pt 1 σc (ARow 72 40 v (found j).length (entsC (ents (j : Int) 1 (found j)) gs) :: AGivens gs :: Ps)) := fun j wx Ps hj hx => by
        have c := K.scan (j : Int) 1 hx.below hx FD.out.lg (by omega) (by constructor <;> omega) (by constructor <;> omega)
        rw [FD.out.scan j hj] at c
        refine c.mono ?_
        rintro e w' ⟨v, gs, h1, h2, h3⟩
        simp only at h1 h2 h3
        refine ⟨v, gs, ?_, h2, ?_⟩
        · rw [h1, ← ents_notes (j : Int) (found j) 1, List.map_map]
          rw [ents_notes]
          rfl
        · rw [ents_len] at h3
          exact behind2 h3
      obtain ⟨k1, hk1⟩ : ∃ x, x = k + 1 := ⟨_, rfl⟩
      rw [← hk1] at CN
      have hk70 := FD.out.k70
      have HCNT := Lib.hid FD.out.cnt
      have HK1 := Lib.hid hk1
      have hk71 : k1 ≤ 71 := by omega
      clear hFD hσc PE H HAT HK3 hi FT hk1
      go_wp2_with (fail)
      refine CR.out.mono ?_
      clear CR
      rintro e w5 ⟨rfl, h5⟩
      have H5 := Lib.hid h5
      have CN1 := Lib.hid (CN.out _ _ h5)
      clear h5 CN
      go_wp2_with (fail)
      refine CN1.out.mono ?_
      clear CN1
      rintro e w6 ⟨rfl, hb6⟩
      have H6 := Lib.hid (H5.out.later hb6)
      clear hb6 H5
      go_wp2_with (fail)
      go_loopw [22, 23] (fun v22 v23 wx => ∃ (s s1 n : Nat), s ≤ k ∧ s1 = s + 1 ∧ n = totF found s ∧ v22 = .int .i64 (n : Int) ∧ v23 = .int .u64 (s1 : Int) ∧ LSt K w.heap.size w wx p pf pt 1 σc [ARow 58 37 (.slice aA all.length cA) all.length (notesC all gs)]) (fun _ v23 _ => k1 - (intOf v23).toNat)
      case atStart => exact ⟨0, 1, 0, Nat.zero_le _, rfl, rfl, rfl, rfl, H6.out⟩
      case round =>
        obtain ⟨s, s1, n, hsk, hs1, hn, rfl, rfl, hH⟩ := hrel
        have H := Lib.hid hH
        have HNN := Lib.hid hn
        clear hH H6 hn
        have HS1 := Lib.hid hs1
        clear hs1
        by_cases hs : (s1 : Int) < (k1 : Int)
        · have hsk2 : s < k := by have := HS1.out; have := HK1.out; omega
          go_wp2_with (fail)
          go_loopw [22, 107] (fun v22 v107 wx => ∃ (j n : Nat), j ≤ 70 ∧ n = totF found s + (if s < j then (found s).length else 0) ∧ v22 = .int .i64 (n : Int) ∧ v107 = .int .i64 (j : Int) ∧ LSt K w.heap.size w wx p pf pt 1 σc [ARow 58 37 (.slice aA all.length cA) all.length (notesC all gs)]) (fun _ v107 _ => 70 - (intOf v107).toNat)
          case atStart => exact ⟨0, n, Nat.zero_le _, by rw [HNN.out, if_neg (Nat.not_lt_zero _)]; rfl, rfl, rfl, H.out⟩
          case round =>
            obtain ⟨j, n, hj70, hn, rfl, rfl, hH⟩ := hrel
            have H := Lib.hid hH
            have HN2 := Lib.hid hn
            clear hH hn HNN
            by_cases hj : (j : Int) < 70
            · have hjn : j < 70 := by omega
              have CS1 := Lib.hid (CS.out j wr _ hjn H.out)
              obtain ⟨sq, hsq⟩ : ∃ x, x = seqs j := ⟨_, rfl⟩
              obtain ⟨nl, hnl⟩ : ∃ x, x = (found j).length := ⟨_, rfl⟩
              rw [← hsq, ← hnl] at CS1
              have hsq2 : sq = 0 ∨ sq = j + 1 := by rw [hsq]; exact FD.out.seq j
              have hzero : sq = 0 → found j = [] := fun h => FD.out.zero j (by rw [← hsq]; exact h)
              go_wp2_with (fail)
              refine CS1.out.mono ?_
              clear CS1
              rintro e w8 ⟨vE, ge, hge, rfl, h8⟩
              obtain ⟨aE, cE, rfl⟩ := h8.rowForm 3 rfl
              have H8 := Lib.hid h8
              have HGE := Lib.hid hge
              clear h8 hge H hsq
              by_cases hne : sq = s1
              · have hjs : j = s := by have := HS1.out; omega
                subst hjs
                have e0 : ((sq : Int) != (s1 : Int)) = false := by simp [hne]
                have hn0 : Hid (n = totF found j) := by show _ = _; rw [HN2.out, if_neg (Nat.lt_irrefl _)]; rfl
                have HNL := Lib.hid hnl
                have hnl60 : nl ≤ 60 := by
                  rcases Nat.eq_zero_or_pos nl with h0 | h0
                  · omega
                  · have := (FD.out.at_ j (nl - 1) hsk2 (by omega)).1
                    omega
                clear hnl hsq2 hzero HN2 hne
                go_wp2_with (fail)
                go_loopw [22, 124] (fun v22 v124 wx => ∃ (x n : Nat), x ≤ nl ∧ n = totF found j + x ∧ v22 = .int .i64 (n : Int) ∧ v124 = .int .i64 (x : Int) ∧ LSt K w.heap.size w wx p pf pt 1 σc [ARow 72 40 (.slice aE nl cE) nl (entsC (ents (j : Int) 1 (found j)) ge), AGivens ge, ARow 58 37 (.slice aA all.length cA) all.length (notesC all gs)]) (fun _ v124 _ => nl - (intOf v124).toNat)
                case atStart => exact ⟨0, n, Nat.zero_le _, hn0.out, rfl, rfl, H8.out⟩
                case round =>
                  obtain ⟨x, n, hxn, hn, rfl, rfl, hH⟩ := hrel
                  have H := Lib.hid hH
                  have HN3 := Lib.hid hn
                  clear hH hn hn0 H8
                  by_cases hx : (x : Int) < (nl : Int)
                  · have hxl : x < nl := by omega
                    have hxf : x < (found j).length := by rw [← HNL.out]; exact hxl
                    obtain ⟨hnA, hall⟩ := FD.out.at_ j x hsk2 hxf
                    rw [← HN3.out] at hnA hall
                    obtain ⟨nt, hnt⟩ : ∃ q, q = (found j)[x] := ⟨_, rfl⟩
                    rw [List.getElem?_eq_getElem hnA, List.getElem?_eq_getElem hxf] at hall
                    have hall2 : all[n] = nt := by rw [hnt]; exact Option.some.inj hall
                    have hgel : ge.length = (found j).length := by have := congrArg List.length HGE.out; simpa using this
                    have hEl : (ents (j : Int) 1 (found j)).length = (found j).length := ents_len _ _ _
                    have hxE : x < (ents (j : Int) 1 (found j)).length := by rw [hEl]; exact hxf
                    have hxg : x < ge.length := by rw [hgel]; exact hxf
                    obtain ⟨_, hEn⟩ := ents_get (j : Int) (found j) 1 x hxE
                    rw [← hnt] at hEn
                    obtain ⟨e, he⟩ : ∃ e, e = (ents (j : Int) 1 (found j))[x] := ⟨_, rfl⟩
                    rw [← he] at hEn
                    obtain ⟨g1, hg1⟩ : ∃ g, g = ge[x] := ⟨_, rfl⟩
                    have hd1 : g1.2.2 = nt.data := by
                      have h := congrArg (fun l => l[x]?) HGE.out
                      simp only [List.getElem?_map] at h
                      rw [List.getElem?_eq_getElem hxg, List.getElem?_eq_getElem hxf, ← hg1, ← hnt] at h
                      exact Option.some.inj h
                    have hgA : n < gs.length := by rw [NA.out.len]; exact hnA
                    obtain ⟨hd2, hv2⟩ := NA.out.at_ n hnA hgA
                    rw [hall2] at hd2
                    obtain ⟨g2, hg2⟩ : ∃ g, g = gs[n] := ⟨_, rfl⟩
                    rw [← hg2] at hd2 hv2
                    have hsum : nt.sum.length = 32 := by rw [← hall2]; exact NA.out.sum _ (List.getElem_mem _)
                    have hsums : ∀ e ∈ ents (j : Int) 1 (found j), e.note.sum.length = 32 := by
                      intro e he
                      obtain ⟨y, hy, rfl⟩ := List.getElem_of_mem he
                      obtain ⟨hy2, hye⟩ := ents_get (j : Int) (found j) 1 y hy
                      rw [hye]
                      obtain ⟨h1, h2⟩ := FD.out.at_ j y hsk2 hy2
                      rw [List.getElem?_eq_getElem h1, List.getElem?_eq_getElem hy2] at h2
                      rw [← Option.some.inj h2]
                      exact NA.out.sum _ (List.getElem_mem _)
                    obtain ⟨gE, rfl, _, _, _⟩ := H.out.rowAt 3 rfl (x * 40) (by omega)
                    obtain ⟨gA, rfl, _, _, _⟩ := H.out.rowAt 5 rfl (n * 37) (by omega)
                    have hrng : wr.rangeAt gE (x * 40) (entC e (gslV g1)) := by
                      intro q v hv
                      have hq : q < 40 := by have := (List.getElem?_eq_some_iff.1 hv).1; rwa [entC_len _ _ (by rw [hEn]; exact hsum)] at this
                      rw [(H.out.rowRange 3 rfl (x * 40 + q) (by omega)).1]
                      exact entsC_at _ _ (by rw [hgel, hEl]) hsums x hxE hxg q v (by rw [← he, ← hg1]; exact hv)
                    have hRA := round_E (P := Try.prog) (ty := 72) (z := zEnt) H.out hrng (by rw [entC_len _ _ (by rw [hEn]; exact hsum), zEnt_len]) (by rw [zEnt_len]; exact info_ent zEnt zEnt_len) (entC_one rfl)
                    obtain ⟨es, hes⟩ : ∃ c, c = entC e (gslV g1) := ⟨_, rfl⟩
                    rw [← hes] at hRA
                    have RA := Lib.hid hRA
                    obtain ⟨b9, hb9⟩ : ∃ b, b = wr.heap.size := ⟨_, rfl⟩
                    obtain ⟨W1, hW1⟩ : ∃ W, W = wr.alloc (.cells zEnt.toArray 72) := ⟨_, rfl⟩
                    obtain ⟨W2, hW2⟩ : ∃ W, W = W1.setCells b9 0 es.toArray.toList := ⟨_, rfl⟩
                    have hst := hRA.st
                    rw [← hb9, ← hW1, ← hW2] at hst
                    have TH := Lib.hid hRA.there
                    rw [← hb9, ← hW1] at TH
                    have hst3 := third hst
                    have H2 := Lib.hid hst3
                    obtain ⟨n1, hn1⟩ : ∃ c, c = Rec.ntC nt (gslV g1) := ⟨_, rfl⟩
                    obtain ⟨n2, hn2⟩ : ∃ c, c = Rec.ntC nt (gslV g2) := ⟨_, rfl⟩
                    have L1 : Hid (n1.length = 37) := by show _ = _; rw [hn1]; exact Rec.ntC_len _ _ hsum
                    have L2 : Hid (n2.length = 37) := by show _ = _; rw [hn2]; exact Rec.ntC_len _ _ hsum
                    have RE : Hid (∀ wx, Below W2.heap.size W2 wx → wx.rangeAt b9 3 n1) := fun wx hwx q v hv => ((hst3.later hwx).cellV 3 rfl (3 + q) (by
                      rw [hes]
                      unfold entC
                      rw [show 3 + q = q + 1 + 1 + 1 by omega, List.getElem?_cons_succ, List.getElem?_cons_succ, List.getElem?_cons_succ, hEn, ← hn1]
                      exact hv)).1
                    have RN : Hid (∀ wx, Below W2.heap.size W2 wx → wx.rangeAt gA (n * 37) n2) := by
                      intro wx hwx q v hv
                      have hq : q < 37 := by rw [← L2.out]; exact (List.getElem?_eq_some_iff.1 hv).1
                      rw [((hst3.later hwx).rowRange 6 rfl (n * 37 + q) (by omega)).1]
                      exact notesC_at all gs NA.out.len NA.out.sum n hnA hgA q v (by rw [hall2, ← hg2, ← hn2]; exact hv)
                    have SAME : Hid (∀ wx, Below W2.heap.size W2 wx → Calls Try.prog 23 #[.agg n1.toArray, .agg n2.toArray] wx fun e w' => e = .returned (.bool true) ∧ Below wx.heap.size wx w') := by
                      intro wx hwx
                      have hl := hst3.later hwx
                      have v1 := (hl.givenAt 5 rfl g1 (by rw [hg1]; exact List.getElem_mem _)).1
                      have v2 : View wx (fun k => k < w.heap.size) g2.1 g2.2.2 := hv2.same (fun k hk => hl.below.block k hk)
                      rw [hd1] at v1
                      rw [hd2] at v2
                      have e1 : gslV g1 = .slice g1.1 nt.data.length g1.2.1 := by unfold gslV; rw [hd1]
                      have e2 : gslV g2 = .slice g2.1 nt.data.length g2.2.1 := by unfold gslV; rw [hd2]
                      rw [hn1, hn2, e1, e2]
                      exact Rec.same_self nt hsum g1.1 g2.1 nt.data.length g1.2.1 g2.2.1 wx v1 v2 rfl
                    obtain ⟨na, hna⟩ : ∃ x, x = all.length := ⟨_, rfl⟩
                    have hnlt : n < na := by rw [hna]; exact hnA
                    have hna60 : na ≤ 60 := by rw [hna]; exact hal60
                    have hnle : ¬ (na : Int) ≤ (n : Int) := by omega
                    have hnaI : (n : Int) < (na : Int) := by omega
                    have ZE := Lib.hid zero_ent
                    have HB9 := Lib.hid hb9
                    have HW1 := Lib.hid hW1
                    have HW2 := Lib.hid hW2
                    have HNA2 := Lib.hid hna
                    rw [← hna]
                    clear hnA hall hnt hall2 hgel hEl hxE hxg hEn he hg1 hd1 hgA hd2 hv2 hg2 hsum hsums hrng hRA hes hb9 hW1 hW2 hst hst3 hn1 hn2 hna hxf H
                    go_wp2_with (first
                      | (refine wpList_load_mid rfl 72 (.tmp 126) rfl gE (x * 40) rfl es _ RA.out.range Try.underlying72 rfl RA.out.info ?_)
                      | (refine Own.wpList_allocZ rfl 72 rfl zEnt.toArray ZE.out ?_; rw [← HB9.out, ← HW1.out])
                      | (refine wpList_store_mid rfl 72 (.tmp 29) (.tmp 127) rfl b9 0 es.toArray rfl rfl TH.out RA.out.info2 RA.out.one ?_; rw [← HW2.out]))
                    refine wp_lax_list (by kernel_rfl) (by kernel_rfl) (by kernel_rfl) ?_
                    refine wpL_move (.int .i64 (n : Int)) rfl (by kernel_rfl) (by kernel_rfl) (by kernel_rfl) (by kernel_rfl) ?_
                    refine wpL_move (.slice (some ⟨gA, 0, none⟩) na cA) rfl (by kernel_rfl) (by kernel_rfl) (by kernel_rfl) (by kernel_rfl) ?_
                    refine wpL_run1 (x := .tmp 129) (.slice (some ⟨gA, 0, none⟩) na cA) (.int .i64 (na : Int)) (by kernel_rfl) (by kernel_rfl) (by kernel_rfl) (by kernel_rfl) (by kernel_rfl) (fun wx ρ hwx h0 hc => by simp [go_sem, h0]) ?_
                    refine wpL_run2 (x := .tmp 128) (y := .tmp 130) (.int .i64 (n : Int)) (.int .i64 (na : Int)) (.bool false) (by kernel_rfl) (by kernel_rfl) (by kernel_rfl) (by kernel_rfl) (by kernel_rfl) (by kernel_rfl) (fun wx ρ hwx h0 h1 hc => by simp [go_sem, h0, h1, hnlt]) ?_
                    refine wpL_move (.bool false) rfl (by kernel_rfl) (by kernel_rfl) (by kernel_rfl) (by kernel_rfl) ?_
                    refine wpL_run1 (x := .tmp 29) (.pointer (some ⟨b9, 0, none⟩)) (.pointer (some ⟨b9, 3, none⟩)) (by kernel_rfl) (by kernel_rfl) (by kernel_rfl) (by kernel_rfl) (by kernel_rfl) (fun wx ρ hwx h0 hc => by simp [go_sem, h0]) ?_
                    refine wpL_run1 (x := .tmp 133) (.pointer (some ⟨b9, 3, none⟩)) (.agg n1.toArray) (by kernel_rfl) (by kernel_rfl) (by kernel_rfl) (by kernel_rfl) (by kernel_rfl) (fun wx ρ hwx h0 hc => Rec.load_note n1 L1.out rfl ρ (RE.out wx hwx) h0) ?_
                    refine wpL_move (.slice (some ⟨gA, 0, none⟩) na cA) rfl (by kernel_rfl) (by kernel_rfl) (by kernel_rfl) (by kernel_rfl) ?_
                    refine wpL_move (.int .i64 (n : Int)) rfl (by kernel_rfl) (by kernel_rfl) (by kernel_rfl) (by kernel_rfl) ?_
                    refine wpL_run2 (x := .tmp 135) (y := .tmp 136) (.slice (some ⟨gA, 0, none⟩) na cA) (.int .i64 (n : Int)) (.pointer (some ⟨gA, n * 37, none⟩)) (by kernel_rfl) (by kernel_rfl) (by kernel_rfl) (by kernel_rfl) (by kernel_rfl) (by kernel_rfl) (fun wx ρ hwx h0 h1 hc => idx_noteE rfl gA na cA n hnlt ρ wx h0 h1) ?_
                    refine wpL_run1 (x := .tmp 137) (.pointer (some ⟨gA, n * 37, none⟩)) (.agg n2.toArray) (by kernel_rfl) (by kernel_rfl) (by kernel_rfl) (by kernel_rfl) (by kernel_rfl) (fun wx ρ hwx h0 hc => Rec.load_note n2 L2.out rfl ρ (RN.out wx hwx) h0) ?_
                    refine wpL_fn (.bool true) [.agg n1.toArray, .agg n2.toArray] rfl (by kernel_rfl) (by kernel_rfl) (by kernel_rfl) (by kernel_rfl) (fun _ _ => by simp [go_sem]) (fun wx hwx => SAME.out wx hwx) ?_
                    refine wpL_run1 (x := .tmp 139) (.bool true) (.bool false) (by kernel_rfl) (by kernel_rfl) (by kernel_rfl) (by kernel_rfl) (by kernel_rfl) (fun wx ρ hwx h0 hc => by simp [go_sem, h0]) ?_
                    refine wpL_run2 (x := .tmp 132) (y := .tmp 140) (.bool false) (.bool false) (.bool false) (by kernel_rfl) (by kernel_rfl) (by kernel_rfl) (by kernel_rfl) (by kernel_rfl) (by kernel_rfl) (fun wx ρ hwx h0 h1 hc => by simp [go_sem, h0, h1, hc]) ?_
                    refine wpL_end (by kernel_rfl) (fun w9 hw9 => ?_)
                    simp only [FinL, setL, List.set_cons_zero, List.set_cons_succ]
                    have HL := Lib.hid (((H2.out.later hw9).front 3 rfl).drop 1)
                    clear hw9 RE RN SAME H2 RA TH
                    go_wp2_with (fail)
                    go_roundw
                    case rel =>
                      refine ⟨x + 1, n + 1, by omega, by rw [HN3.out, Nat.add_assoc], by go_num, by go_num, ?_⟩
                      have h := HL.out
                      rw [← HNA2.out] at h
                      exact h
                    case measure => simp [intOf]; omega
                  · have hxe : x = nl := by omega
                    have HL := Lib.hid ((((H.out.front 3 rfl).drop 1).front 3 rfl).drop 1)
                    clear H
                    go_wp2_with (fail)
                    go_roundw
                    case rel => exact ⟨j + 1, n, by omega, by rw [HN3.out, if_pos (Nat.lt_succ_self _), hxe, HNL.out], rfl, by go_num, HL.out⟩
                    case measure => simp [intOf]; omega
              · have e0 : ((sq : Int) != (s1 : Int)) = true := by simp; omega
                have HL := Lib.hid ((((H8.out.front 3 rfl).drop 1).front 3 rfl).drop 1)
                have hnn : Hid (n = totF found s + (if s < j + 1 then (found s).length else 0)) := by
                  show _ = _
                  rw [HN2.out]
                  by_cases hjs : j = s
                  · subst hjs
                    have h0 : sq = 0 := by
                      rcases hsq2 with h | h
                      · exact h
                      · exact absurd (by rw [h]; exact HS1.out.symm) hne
                    rw [if_neg (Nat.lt_irrefl _), if_pos (Nat.lt_succ_self _), hzero h0]
                    rfl
                  · by_cases h1 : s < j
                    · rw [if_pos h1, if_pos (by omega)]
                    · rw [if_neg h1, if_neg (by omega)]
                clear H8 hsq2 hzero HN2 hne hnl
                go_wp2_with (fail)
                go_roundw
                case rel => exact ⟨j + 1, n, by omega, hnn.out, rfl, by go_num, HL.out⟩
                case measure => simp [intOf]; omega
            · have hj2 : j = 70 := by omega
              have hnn : Hid (n = totF found (s + 1)) := by
                show _ = _
                rw [HN2.out, if_pos (by omega)]
                rfl
              have hs1b : s1 ≤ 100 := by have := HS1.out; omega
              clear HN2
              go_wp2_with (fail)
              go_roundw
              case rel => exact ⟨s + 1, s1 + 1, n, by omega, by rw [HS1.out], hnn.out, rfl, by go_num, H.out⟩
              case measure => simp [intOf]; have := HS1.out; omega
        · have hsk3 : s = k := by have := HS1.out; have := HK1.out; omega
          have hge : (cnt : Int) ≤ (n : Int) := by
            have h1 := HCNT.out
            have h2 := HNN.out
            rw [hsk3] at h2
            omega
          clear HNN HCNT
          go_wp2_with (fail)
          go_ret
          exact ⟨rfl, H.out.below⟩
end Lg
end Go.Proofs.Ytmdphcebmgcdbaa

end
section
namespace Go.Proofs.Ytmdphcebmgcdbaa
open Go.RowKit Go.Own
namespace Fla
open Go.FlaM Byt

abbrev strV (b : Bs) : Value := .string (strB b)
abbrev nuV (n : Nat) : Value := .int .i64 (n : Int)
def actR (a : FlaM.Act) : List Value := [.int .i64 (a.seg : Int), .int .i64 a.page, strV a.b]
abbrev flashCells (vS vL vW : Value) (s : FS) : List Value := [vS, vL, vW, .bool s.off, .int .i64 s.left, nuV s.n, nuV s.pp]
abbrev GridS (vS : Value) (safe : List (List Bs)) : Asn := AGrid 104 9 strV vS safe
abbrev RowL (vL : Value) (L : List FlaM.Act) : Asn := ARow 194 3 vL L.length (L.flatMap actR)
abbrev RowW (vW : Value) (l : List Nat) : Asn := ARow 3 1 vW l.length (l.map nuV)
def refParts (p : Nat) (x : Value × Value × Value) (s : FS) : List Asn := [GridS x.1 s.safe, AVals p 103 (flashCells x.1 x.2.1 x.2.2 s), RowL x.2.1 s.L, RowW x.2.2 s.wear]
/-- the document's flash at p -/
def ARef (p : Nat) (s : FS) : Asn := AEx fun x : Value × Value × Value => AJoin (refParts p x s)
section
variable {B : Nat} {w0 w : World} {Ps : List Asn} {p : Nat} {s : FS} {vS vL vW : Value}
theorem ref_open (h : Own.St B w0 w (ARef p s :: Ps)) : ∃ vS vL vW, Own.St B w0 w (GridS vS s.safe :: AVals p 103 (flashCells vS vL vW s) :: RowL vL s.L :: RowW vW s.wear :: Ps) := by
  obtain ⟨⟨vS, vL, vW⟩, h⟩ := h.openE
  exact ⟨vS, vL, vW, h.openJ⟩
theorem ref_close (h : Own.St B w0 w (GridS vS s.safe :: AVals p 103 (flashCells vS vL vW s) :: RowL vL s.L :: RowW vW s.wear :: Ps)) : Own.St B w0 w (ARef p s :: Ps) :=
  Own.St.closeE (P := fun x : Value × Value × Value => AJoin (refParts p x s)) (vS, vL, vW) (Own.St.closeJ (Qs := refParts p (vS, vL, vW) s) h)
end

set_option maxHeartbeats 800000 in
theorem erased_any (w : World) : Calls Try.prog 32 #[] w fun e w' => e = .returned (strV FlaM.blank) ∧ Below w.heap.size w w' := by
  obtain ⟨w2, g, hmk, hst⟩ : ∃ w2 g, (Instr.makeSlice 56 (.int .i64 128) (.int .i64 128)).run Try.prog w = .ok (.slice (some ⟨g, 0, none⟩) 128 128) w2 ∧ Own.St w.heap.size w w2 [AB (some ⟨g, 0, none⟩) 128 128 (ones 255 128 0)] := by
    obtain ⟨w2, h1, h2⟩ := ab_make (Own.St.start w) .i64 .i64 128 (by omega)
    exact ⟨w2, _, h1, by rw [ones_zero]; exact h2⟩
  have HST := Lib.hid hst
  clear hst
  go_enter Try.func32, Try.ntmps32
  go_wp2
  clear hmk
  go_loopw [2] (fun v wr => ∃ k : Nat, k ≤ 128 ∧ v = .int .i64 (k : Int) ∧ Own.St w.heap.size w wr [AB (some ⟨g, 0, none⟩) 128 128 (ones 255 128 k)]) (fun v _ => 128 - (intOf v).toNat)
  case atStart => exact ⟨0, Nat.zero_le _, rfl, HST.out⟩
  case round =>
    obtain ⟨k, hk128, rfl, H⟩ := hrel
    have H := Lib.hid H
    clear HST
    by_cases hk : (k : Int) < 128
    · have hkn : k < 128 := by omega
      obtain ⟨g', hg', cb, fb, hput⟩ := ab_byte H.out 0 rfl k hkn
      cases hg'
      have PUT : Hid (Own.St w.heap.size w (wr.setCell ⟨g, k, none⟩ (.int .u8 255)) [AB (some ⟨g, 0, none⟩) 128 128 (ones 255 128 (k + 1))]) := by
        have h := hput 255
        simp only [List.set_cons_zero] at h
        rw [ones_set 255 128 k hkn] at h
        exact h
      clear hput H
      go_wp2
      go_roundw
      case rel => exact ⟨k + 1, by omega, by go_num, PUT.out⟩
      case measure => simp [intOf]; omega
    · have hst : (convert 56 9 (.slice (some ⟨g, 0, none⟩) 128 128)).run Try.prog wr = .ok (strV FlaM.blank) wr := by
        have h := ab_str H.out 0 rfl
        rw [show k = 128 by omega, ones_all] at h
        exact h
      have HB := Lib.hid H.out.below
      clear H hk128
      go_wp2
      go_ret
      exact ⟨rfl, HB.out⟩

end Fla
end Go.Proofs.Ytmdphcebmgcdbaa

end
section
namespace Go.Proofs.Ytmdphcebmgcdbaa
open Go.RowKit Go.Own
namespace Fla
open Go.FlaM Byt

theorem oneInt : One Try.prog 44 3 (.int .i64 0) 8 := ⟨Try.underlying44, by kernel_rfl, rfl⟩
theorem oneStr : One Try.prog 104 9 (.string ⟨#[]⟩) 16 := ⟨Try.underlying104, by kernel_rfl, rfl⟩
theorem oneRow : One Try.prog 100 104 (.slice none 0 0) 24 := ⟨Try.underlying100, by kernel_rfl, rfl⟩

end Fla
end Go.Proofs.Ytmdphcebmgcdbaa

end
