/- A region that draws its order and holds calls that turn memory, one behind the other: one walk in the order of the text; what the world is like is told by how many of them have been. -/
import Derived.Test.YtefbcoakjdjkgaaLax
namespace Go.Own
open Go.RowKit

def updL (L : Nat → Bool) (i : Nat) : Nat → Bool := fun j => if j = i then true else L j
section
variable {P : Program} {ops : Array Oper} {md : Region.Mode} {CL : (Nat → Bool) → World → Prop}
/-- what may be taken for granted when operation i comes up -/
structure Comes (ops : Array Oper) (md : Region.Mode) (i : Nat) (o : Oper) (L : Nat → Bool) : Prop where
  not : L i = false
  closed : ∀ (j : Nat) (oj : Oper), ops[j]? = some oj → L j = true → ∀ e ∈ oj.after, Region.binds md e = true → L e.on = true
  ready : ∀ e ∈ o.after, Region.binds md e = true → L e.on = true
inductive StepG (P : Program) (ops : Array Oper) (md : Region.Mode) (CL : (Nat → Bool) → World → Prop) (i : Nat) (o : Oper) (a : Act) : Act → Prop
  | skip (hw : Region.wanted o (yielded ops a.tmps) = false) (hq : ∀ L w, CL L w → Comes ops md i o L → CL (updL L i) w) : StepG P ops md CL i o a (a.put o.dst undef)
  | val (v : Value) (hw : Region.wanted o (yielded ops a.tmps) = true)
      (h : ∀ L a1 w, CL L w → Comes ops md i o L → (∀ t ∈ o.looksAt ops, a1.tmps.getD t undef = a.tmps.getD t undef) → ∀ (K : Act → World → Prop) (Q : Exit → Act → World → Prop), (∀ w', CL (updL L i) w' → K (a1.put o.dst v) w') → o.wp P a1 w K Q) : StepG P ops md CL i o a (a.put o.dst v)

structure InvG (md : Region.Mode) (ops : Array Oper) (CL : (Nat → Bool) → World → Prop) (a0 : Act) (S : Nat → Act) (listed : Array Bool) (a1 : Act) (w1 : World) : Prop where
  world : CL (fun j => listed.getD j false) w1
  defers : a1.defers = a0.defers
  size : a1.tmps.size = a0.tmps.size
  lsize : listed.size = ops.size
  closed : ∀ (j : Nat) (oj : Oper), ops[j]? = some oj → listed.getD j false = true → ∀ e ∈ oj.after, Region.binds md e = true → listed.getD e.on false = true
  done : ∀ (j : Nat) (oj : Oper) (d : Tmp), ops[j]? = some oj → listed.getD j false = true → oj.dst = some d → a1.tmps.getD d undef = (S (j + 1)).tmps.getD d undef
  rest : ∀ t, (∀ (j : Nat) (oj : Oper), ops[j]? = some oj → listed.getD j false = true → oj.dst ≠ some t) → a1.tmps.getD t undef = a0.tmps.getD t undef

theorem StepG.put {i : Nat} {o : Oper} {a a' : Act} (h : StepG P ops md CL i o a a') : ∃ v, a' = a.put o.dst v := by
  cases h with
  | skip => exact ⟨_, rfl⟩
  | val v => exact ⟨v, rfl⟩
theorem sizesG {a0 : Act} {S : Nat → Act} (hS0 : S 0 = a0) (hst : ∀ (k : Nat) (o : Oper), ops[k]? = some o → StepG P ops md CL k o (S k) (S (k + 1))) :
    ∀ k, k ≤ ops.size → (S k).tmps.size = a0.tmps.size ∧ (S k).defers = a0.defers
  | 0, _ => by rw [hS0]; exact ⟨rfl, rfl⟩
  | k + 1, hk => by
    have h := sizesG hS0 hst k (by omega)
    obtain ⟨v, g⟩ := (hst k ops[k] (Array.getElem?_eq_getElem (by omega))).put
    rw [g]
    exact ⟨(put_size _ _ _).trans h.1, (put_defers _ _ _).trans h.2⟩
theorem otherG {a0 : Act} {S : Nat → Act} (hS0 : S 0 = a0) (hst : ∀ (k : Nat) (o : Oper), ops[k]? = some o → StepG P ops md CL k o (S k) (S (k + 1)))
    (hin : ∀ (k : Nat) (o : Oper) (d : Tmp), ops[k]? = some o → o.dst = some d → d < a0.tmps.size) {t : Tmp} (m : Nat) :
    ∀ q, m + q ≤ ops.size → (∀ j oj, m ≤ j → j < m + q → ops[j]? = some oj → oj.dst ≠ some t) → (S (m + q)).tmps.getD t undef = (S m).tmps.getD t undef
  | 0, _, _ => rfl
  | q + 1, hq, hno => by
    have ih := otherG hS0 hst hin (t := t) m q (by omega) (fun j oj h1 h2 => hno j oj h1 (by omega))
    have hk : ops[m + q]? = some ops[m + q] := Array.getElem?_eq_getElem (by omega)
    have hs := sizesG hS0 hst (m + q) (by omega)
    obtain ⟨v, g⟩ := (hst (m + q) _ hk).put
    refine Eq.trans ?_ ih
    show (S (m + q + 1)).tmps.getD t undef = _
    rw [g]
    have hd := hno (m + q) _ (by omega) (by omega) hk
    cases hdd : (ops[m + q]).dst with
    | none => rfl
    | some d => rw [put_getD _ d t v (by rw [hs.1]; exact hin _ _ d hk hdd), if_neg (fun e => hd (by rw [hdd, e]))]

theorem wpAny_G {Q' : Exit → Act → World → Prop} {a0 : Act} {S : Nat → Act} (hS0 : S 0 = a0)
    (hst : ∀ (k : Nat) (o : Oper), ops[k]? = some o → StepG P ops md CL k o (S k) (S (k + 1)))
    (hin : ∀ (k : Nat) (o : Oper) (d : Tmp), ops[k]? = some o → o.dst = some d → d < a0.tmps.size)
    (hone : ∀ (j k : Nat) (x y : Oper) (d : Tmp), ops[j]? = some x → ops[k]? = some y → x.dst = some d → y.dst = some d → j = k)
    (hlex : ∀ (i : Nat) (oi : Oper), ops[i]? = some oi → (∀ e ∈ oi.after, Region.binds md e = true → e.on < i) ∧ ∀ j oj, i < j → ops[j]? = some oj → (∃ e ∈ oj.after, Region.binds md e = true ∧ e.on = i) ∨ oi.apart ops oj = true)
    (hfin : ∀ (a1 : Act) (w1 : World) (L : Nat → Bool), CL L w1 → (∀ i, i < ops.size → L i = true) → a1 = S ops.size → Q' .normal a1 w1) :
    ∀ (fuel : Nat) (listed : Array Bool) (a1 : Act) (w1 : World), (∃ s, (List.range ops.size).filter (fun i => !listed.getD i true) = s ∧ s.length = fuel) → InvG md ops CL a0 S listed a1 w1 → wpAny P md ops Q' fuel listed a1 w1 := by
  have hready : ∀ listed : Array Bool, listed.size = ops.size → Region.ready md ops listed = [] → ∀ i, i < ops.size → listed.getD i true = true := by
    intro listed hls hr i
    induction i using Nat.strongRecOn with
    | _ i ih =>
      intro hi
      rcases hb : listed.getD i true with _ | _
      · exfalso
        have : i ∈ Region.ready md ops listed := by
          refine mem_ready.2 ⟨hb, ops[i], Array.getElem?_eq_getElem hi, fun e he hbd => ?_⟩
          have h1 := (hlex i _ (Array.getElem?_eq_getElem hi)).1 e he hbd
          have h2 := ih e.on h1 (by omega)
          have h3 : e.on < listed.size := by omega
          simpa [h3] using h2
        rw [hr] at this
        cases this
      · rfl
  have hend : ∀ (fuel : Nat) (listed : Array Bool) (a1 : Act) (w1 : World), InvG md ops CL a0 S listed a1 w1 → (∀ i, i < ops.size → listed.getD i true = true) → wpAny P md ops Q' fuel listed a1 w1 := by
    intro fuel listed a1 w1 hI hall
    have hsz := sizesG hS0 hst ops.size (Nat.le_refl _)
    have hallf : ∀ i, i < ops.size → listed.getD i false = true := by
      intro i hi
      have h1 := hall i hi
      have h2 : i < listed.size := by rw [hI.lsize]; exact hi
      simpa [h2] using h1
    have hnr : Region.ready md ops listed = [] := by
      apply List.eq_nil_iff_forall_not_mem.2
      intro i hi
      obtain ⟨h0, o, ho, _⟩ := mem_ready.1 hi
      have := hall i (Array.getElem?_eq_some_iff.1 ho).1
      rw [this] at h0; cases h0
    refine wpAny_done hnr (hfin a1 w1 _ hI.world hallf ?_) fuel
    have hslot : ∀ t, a1.tmps.getD t undef = (S ops.size).tmps.getD t undef := by
      intro t
      by_cases hw : ∃ (j : Nat) (oj : Oper), ops[j]? = some oj ∧ oj.dst = some t
      · obtain ⟨j, oj, hj, hd⟩ := hw
        have hjl := (Array.getElem?_eq_some_iff.1 hj).1
        have h1 := hI.done j oj t hj (hallf j hjl) hd
        have h2 := otherG hS0 hst hin (t := t) (j + 1) (ops.size - (j + 1)) (by omega) (fun i oi h1 h2 hi hdi => by
          have := hone i j oi oj t hi hj hdi hd; omega)
        rw [show j + 1 + (ops.size - (j + 1)) = ops.size by omega] at h2
        exact h1.trans h2.symm
      · have h1 := hI.rest t (fun j oj hj hl hd => hw ⟨j, oj, hj, hd⟩)
        have h2 := otherG hS0 hst hin (t := t) 0 ops.size (by omega) (fun j oj _ h2 hj hd => hw ⟨j, oj, hj, hd⟩)
        rw [Nat.zero_add, hS0] at h2
        exact h1.trans h2.symm
    have hts : a1.tmps = (S ops.size).tmps := by
      apply Array.ext
      · rw [hI.size, hsz.1]
      · intro i h1 h2
        have := hslot i
        simpa [Array.getD, h1, h2] using this
    have hds : a1.defers = (S ops.size).defers := hI.defers.trans hsz.2.symm
    cases a1
    cases hS : S ops.size
    rw [hS] at hts hds
    simp only at hts hds
    subst hts hds
    rfl
  intro fuel
  induction fuel with
  | zero =>
    rintro listed a1 w1 ⟨s, hs, hlen⟩ hI
    refine hend 0 listed a1 w1 hI (fun i hi => ?_)
    have hnil : s = [] := List.eq_nil_of_length_eq_zero hlen
    subst hnil
    have := List.filter_eq_nil_iff.1 hs i (List.mem_range.2 (by omega))
    simpa using this
  | succ fuel ih =>
    rintro listed a1 w1 ⟨s, hs, hlen⟩ hI
    by_cases hdone : ∀ i, i < ops.size → listed.getD i true = true
    · exact hend (fuel + 1) listed a1 w1 hI hdone
    refine ⟨fun h0 => absurd (fun i hi => hready listed hI.lsize h0 i (by omega)) hdone, fun i hi => ?_⟩
    obtain ⟨hun, oi, hoi, hall⟩ := mem_ready.1 hi
    have hil := (Array.getElem?_eq_some_iff.1 hoi).1
    have hill : i < listed.size := by rw [hI.lsize]; exact hil
    have hunf : listed.getD i false = false := by simpa [hill] using hun
    have hcount : ∃ s', (List.range ops.size).filter (fun j => !(listed.setIfInBounds i true).getD j true) = s' ∧ s'.length = fuel := by
      refine ⟨_, rfl, ?_⟩
      have hn : (List.range ops.size).Nodup := List.nodup_range
      have e : (List.range ops.size).filter (fun j => !(listed.setIfInBounds i true).getD j true) = ((List.range ops.size).filter fun j => !listed.getD j true).erase i := by
        rw [List.Nodup.erase_eq_filter (List.Pairwise.filter _ hn), List.filter_filter]
        apply List.filter_congr
        intro j hj
        by_cases hji : j = i
        · subst hji; simp [hill]
        · rw [getD_set_ne true (Ne.symm hji)]; simp [hji]
      rw [e, List.length_erase_of_mem (List.mem_filter.2 ⟨List.mem_range.2 hil, by simp only [hun]; rfl⟩), hs, hlen]
      rfl
    have hlook : ∀ t ∈ oi.looksAt ops, a1.tmps.getD t undef = (S i).tmps.getD t undef := by
      intro t ht
      have hback : (∀ (j : Nat) (oj : Oper), ops[j]? = some oj → oj.dst = some t → i ≤ j) → (∀ (j : Nat) (oj : Oper), ops[j]? = some oj → oj.dst = some t → listed.getD j false = false) → a1.tmps.getD t undef = (S i).tmps.getD t undef := by
        intro h1 h2
        have h3 := otherG hS0 hst hin (t := t) 0 i (by omega) (fun j oj _ hj ho hd => by have := h1 j oj ho hd; omega)
        rw [Nat.zero_add, hS0] at h3
        refine Eq.trans (hI.rest t (fun j oj hj hl hd => ?_)) h3.symm
        rw [h2 j oj hj hd] at hl; cases hl
      by_cases hw : ∃ (j : Nat) (oj : Oper), ops[j]? = some oj ∧ oj.dst = some t
      · obtain ⟨j, oj, hj, hd⟩ := hw
        have huniq : ∀ (j' : Nat) (oj' : Oper), ops[j']? = some oj' → oj'.dst = some t → j' = j := fun j' oj' h1 h2 => hone j' j oj' oj t h1 hj h2 hd
        rcases Nat.lt_trichotomy j i with hji | hji | hji
        · rcases (hlex j oj hj).2 i oi hji hoi with ⟨e, he, hb, heq⟩ | hap
          · have hl : listed.getD j false = true := by rw [← heq]; exact hall e he hb
            have h1 := hI.done j oj t hj hl hd
            have h2 := otherG hS0 hst hin (t := t) (j + 1) (i - (j + 1)) (by omega) (fun j' oj' h1 _ h3 h4 => by have := huniq j' oj' h3 h4; omega)
            rw [show j + 1 + (i - (j + 1)) = i by omega] at h2
            exact h1.trans h2.symm
          · exact absurd ht ((Oper.apart_spec hap).1 t hd)
        · subst hji
          refine hback (fun j' oj' h1 h2 => by have := huniq j' oj' h1 h2; omega) (fun j' oj' h1 h2 => by rw [huniq j' oj' h1 h2]; exact hunf)
        · rcases (hlex i oi hoi).2 j oj hji hj with ⟨e, he, hb, heq⟩ | hap
          · refine hback (fun j' oj' h1 h2 => by have := huniq j' oj' h1 h2; omega) (fun j' oj' h1 h2 => ?_)
            rw [huniq j' oj' h1 h2]
            rcases hlj : listed.getD j false with _ | _
            · rfl
            · have := hI.closed j oj hj hlj e he hb
              rw [heq, hunf] at this; cases this
          · exact absurd ht ((Oper.apart_spec hap).2.2 t hd)
      · exact hback (fun j oj h1 h2 => absurd ⟨j, oj, h1, h2⟩ hw) (fun j oj h1 h2 => absurd ⟨j, oj, h1, h2⟩ hw)
    have hsz := sizesG hS0 hst i (by omega)
    have hsame : a1.tmps.size = (S i).tmps.size := hI.size.trans hsz.1.symm
    have hupd : (fun j => (listed.setIfInBounds i true).getD j false) = updL (fun j => listed.getD j false) i := by
      funext j
      unfold updL
      by_cases hji : j = i
      · subst hji; simp [hill]
      · rw [getD_set_ne false (Ne.symm hji), if_neg hji]
    have hcomes : Comes ops md i oi (fun j => listed.getD j false) := ⟨hunf, hI.closed, hall⟩
    have hnext : ∀ (v : Value) (w' : World), S (i + 1) = (S i).put oi.dst v → CL (updL (fun j => listed.getD j false) i) w' → InvG md ops CL a0 S (listed.setIfInBounds i true) (a1.put oi.dst v) w' := by
      intro v w' hv hb
      have hget : ∀ t, oi.dst ≠ some t → (a1.put oi.dst v).tmps.getD t undef = a1.tmps.getD t undef := by
        intro t ht
        cases hd : oi.dst with
        | none => rfl
        | some d => rw [put_getD a1 d t v (by rw [hI.size]; exact hin i oi d hoi hd), if_neg (fun e => ht (by rw [hd, e]))]
      have hlist : ∀ j, (listed.setIfInBounds i true).getD j false = true → j = i ∨ listed.getD j false = true := by
        intro j hj
        by_cases hji : j = i
        · exact .inl hji
        · rw [getD_set_ne false (Ne.symm hji)] at hj; exact .inr hj
      refine ⟨by rw [hupd]; exact hb, (put_defers _ _ _).trans hI.defers, (put_size _ _ _).trans hI.size, by simpa using hI.lsize, fun j oj hj hl e he hbd => ?_, fun j oj d hj hl hd => ?_, fun t ht => ?_⟩
      · rcases hlist j hl with rfl | hl
        · obtain rfl : oj = oi := by rw [hoi] at hj; simpa using hj.symm
          exact getD_set_true (hall e he hbd)
        · exact getD_set_true (hI.closed j oj hj hl e he hbd)
      · rcases hlist j hl with rfl | hl
        · obtain rfl : oj = oi := by rw [hoi] at hj; simpa using hj.symm
          rw [hv, hd, put_getD a1 d d v (by rw [hI.size]; exact hin j oj d hj hd), if_pos rfl, put_getD (S j) d d v (by rw [hsz.1]; exact hin j oj d hj hd), if_pos rfl]
        · have hne : oi.dst ≠ some d := by
            intro h
            have := hone i j oi oj d hoi hj h hd
            subst this
            rw [hunf] at hl; cases hl
          rw [hget d hne]
          exact hI.done j oj d hj hl hd
      · have hne : oi.dst ≠ some t := ht i oi hoi (by simp [hill])
        rw [hget t hne]
        exact hI.rest t (fun j oj hj hl => ht j oj hj (getD_set_true hl))
    have hwl : Region.wanted oi (yielded ops a1.tmps) = Region.wanted oi (yielded ops (S i).tmps) :=
      wanted_looks (I := []) (w := w1) (by unfold guardKnown; split; rfl; split <;> rfl) hsame (fun t ht => hlook t ht)
    have hstep := hst i oi hoi
    unfold wpOp
    simp only [hoi]
    generalize hSj : S (i + 1) = sj at *
    cases hstep with
    | skip hw hq =>
      rw [hwl, hw]
      simp only [Bool.false_eq_true, if_false]
      exact ih _ _ _ hcount (hnext undef w1 rfl (hq _ _ hI.world hcomes))
    | val v hw h =>
      rw [hwl, hw]
      simp only [if_true]
      exact .inl (h _ a1 w1 hI.world hcomes hlook _ _ (fun w' hu => ih _ _ _ hcount (hnext v w' rfl hu)))
end

/-! ### how far the chain is -/
/-- so many of the chain have been: what the world is like -/
def CLp (C : Nat → World → Prop) (E : List Nat) (L : Nat → Bool) (w : World) : Prop := C (E.filter L).length w
/-- x is y, or waits for it, some by way of others -/
def waitsGB (ops : Array Oper) : Nat → Nat → Nat → Bool
  | 0, x, y => x == y
  | f + 1, x, y => x == y || match ops[x]? with
    | some o => o.after.any fun e => Region.binds .any e && waitsGB ops f e.on y
    | none => false
theorem waitsGB_sound {ops : Array Oper} {L : Nat → Bool} (hcl : ∀ (j : Nat) (oj : Oper), ops[j]? = some oj → L j = true → ∀ e ∈ oj.after, Region.binds .any e = true → L e.on = true) :
    ∀ (f x y : Nat), waitsGB ops f x y = true → L x = true → L y = true
  | 0, x, y, h, hx => by
    have : x = y := by simpa [waitsGB] using h
    rw [← this]; exact hx
  | f + 1, x, y, h, hx => by
    unfold waitsGB at h
    rw [Bool.or_eq_true] at h
    rcases h with h | h
    · have : x = y := by simpa using h
      rw [← this]; exact hx
    · split at h
      · rename_i o ho
        obtain ⟨e, he, hb⟩ := Array.any_eq_true'.1 h
        rw [Bool.and_eq_true] at hb
        exact waitsGB_sound hcl f e.on y hb.2 (hcl x o ho hx e he hb.1)
      · cases h
/-- each of the chain waits for the one ahead of it -/
def chainB (ops : Array Oper) (E : List Nat) : Bool := decide E.Nodup && E.all (· < ops.size) && (List.range (E.length - 1)).all fun j => match ops[E.getD (j + 1) 0]? with
  | some o => o.after.any fun e => Region.binds .any e && waitsGB ops 12 e.on (E.getD j 0)
  | none => false
section
variable {P : Program} {ops : Array Oper} {C : Nat → World → Prop} {E : List Nat}
theorem chain_edge (hch : chainB ops E = true) (j : Nat) (hj : j + 1 < E.length) : ∃ o, ops[E.getD (j + 1) 0]? = some o ∧ ∃ e ∈ o.after, Region.binds .any e = true ∧ waitsGB ops 12 e.on (E.getD j 0) = true := by
  unfold chainB at hch
  simp only [Bool.and_eq_true] at hch
  have h := List.all_eq_true.1 hch.2 j (List.mem_range.2 (by omega))
  split at h
  · rename_i o ho
    obtain ⟨e, he, hb⟩ := Array.any_eq_true'.1 h
    rw [Bool.and_eq_true] at hb
    exact ⟨o, ho, e, he, hb.1, hb.2⟩
  · cases h
theorem chain_nodup (hch : chainB ops E = true) : E.Nodup := by
  unfold chainB at hch
  simp only [Bool.and_eq_true, decide_eq_true_eq] at hch
  exact hch.1.1
theorem chain_lt (hch : chainB ops E = true) : ∀ i ∈ E, i < ops.size := by
  unfold chainB at hch
  simp only [Bool.and_eq_true] at hch
  intro i hi
  simpa using List.all_eq_true.1 hch.1.2 i hi
theorem chain_down (hch : chainB ops E = true) {L : Nat → Bool} (hcl : ∀ (j : Nat) (oj : Oper), ops[j]? = some oj → L j = true → ∀ e ∈ oj.after, Region.binds .any e = true → L e.on = true) (j : Nat) :
    ∀ d, j + d < E.length → L (E.getD (j + d) 0) = true → L (E.getD j 0) = true
  | 0, _, h => h
  | d + 1, hl, h => by
    obtain ⟨o, ho, e, he, hb, heq⟩ := chain_edge hch (j + d) (by omega)
    have := waitsGB_sound hcl 12 _ _ heq (hcl _ o ho h e he hb)
    exact chain_down hch hcl j d (by omega) this
theorem filter_upd_not {L : Nat → Bool} {k : Nat} (hk : E.contains k = false) : E.filter (updL L k) = E.filter L := by
  apply List.filter_congr
  intro x hx
  unfold updL
  rw [if_neg]
  rintro rfl
  have : E.contains x = true := by simpa using hx
  rw [hk] at this
  cases this
theorem getD_of {j k : Nat} (h : E[j]? = some k) : E.getD j 0 = k := by rw [List.getD_eq_getElem?_getD, h]; rfl
theorem chain_phase (hch : chainB ops E = true) {L : Nat → Bool} {j k : Nat} {o : Oper} (hj : E[j]? = some k) (ho : ops[k]? = some o) (hc : Comes ops .any k o L) :
    (E.filter L).length = j ∧ (E.filter (updL L k)).length = j + 1 := by
  have hjl := (List.getElem?_eq_some_iff.1 hj).1
  have hk := getD_of hj
  have hbef : ∀ i, i < j → L (E.getD i 0) = true := by
    intro i hi
    obtain ⟨o', ho', e, he, hb, heq⟩ := chain_edge hch (j - 1) (by omega)
    rw [show j - 1 + 1 = j by omega, hk, ho] at ho'
    cases ho'
    have h1 := waitsGB_sound hc.closed 12 _ _ heq (hc.ready e he hb)
    have h2 := chain_down hch hc.closed i (j - 1 - i) (by omega)
    rw [show i + (j - 1 - i) = j - 1 by omega] at h2
    exact h2 h1
  have haft : ∀ i, j ≤ i → i < E.length → L (E.getD i 0) = false := by
    intro i hi hl
    rcases hb : L (E.getD i 0) with _ | _
    · rfl
    · have h2 := chain_down hch hc.closed j (i - j) (by omega)
      rw [show j + (i - j) = i by omega] at h2
      have := h2 hb
      rw [hk, hc.not] at this
      cases this
  have hmem : ∀ (l : List Nat) (x : Nat), x ∈ l → ∃ i, i < l.length ∧ l.getD i 0 = x := by
    intro l x hx
    obtain ⟨i, hi, rfl⟩ := List.mem_iff_getElem.1 hx
    exact ⟨i, hi, by rw [List.getD_eq_getElem?_getD, List.getElem?_eq_getElem hi]; rfl⟩
  have e1 : E.filter L = E.take j := by
    conv => lhs; rw [← List.take_append_drop j E]
    rw [List.filter_append, List.filter_eq_self.2, List.filter_eq_nil_iff.2, List.append_nil]
    · intro x hx
      obtain ⟨i, hi, rfl⟩ := hmem _ x hx
      rw [List.length_drop] at hi
      have : (E.drop j).getD i 0 = E.getD (j + i) 0 := by rw [List.getD_eq_getElem?_getD, List.getD_eq_getElem?_getD, List.getElem?_drop]
      rw [this, haft (j + i) (by omega) (by omega)]
      simp
    · intro x hx
      obtain ⟨i, hi, rfl⟩ := hmem _ x hx
      rw [List.length_take] at hi
      have : (E.take j).getD i 0 = E.getD i 0 := by rw [List.getD_eq_getElem?_getD, List.getD_eq_getElem?_getD, List.getElem?_take_of_lt (by omega)]
      rw [this]
      exact hbef i (by omega)
  refine ⟨by rw [e1, List.length_take]; omega, ?_⟩
  have e2 : E.filter (updL L k) = E.take (j + 1) := by
    conv => lhs; rw [← List.take_append_drop (j + 1) E]
    rw [List.filter_append, List.filter_eq_self.2, List.filter_eq_nil_iff.2, List.append_nil]
    · intro x hx
      obtain ⟨i, hi, rfl⟩ := hmem _ x hx
      rw [List.length_drop] at hi
      have : (E.drop (j + 1)).getD i 0 = E.getD (j + 1 + i) 0 := by rw [List.getD_eq_getElem?_getD, List.getD_eq_getElem?_getD, List.getElem?_drop]
      rw [this]
      unfold updL
      rw [if_neg, haft (j + 1 + i) (by omega) (by omega)]
      · simp
      · intro e
        have hn := chain_nodup hch
        rw [List.getD_eq_getElem?_getD, List.getElem?_eq_getElem (by omega)] at e
        have h1 : E[j + 1 + i]? = E[j]? := by rw [hj, List.getElem?_eq_getElem (by omega)]; simpa using e
        have := (List.getElem?_inj (by omega) hn).1 h1
        omega
    · intro x hx
      obtain ⟨i, hi, rfl⟩ := hmem _ x hx
      rw [List.length_take] at hi
      have : (E.take (j + 1)).getD i 0 = E.getD i 0 := by rw [List.getD_eq_getElem?_getD, List.getD_eq_getElem?_getD, List.getElem?_take_of_lt (by omega)]
      rw [this]
      unfold updL
      by_cases hij : i = j
      · rw [hij, hk, if_pos rfl]
      · split
        · rfl
        · exact hbef i (by omega)
  rw [e2, List.length_take]
  omega

/-- operation k waits for the m-th of the chain -/
def behindB (ops : Array Oper) (E : List Nat) (k m : Nat) : Bool := decide (m < E.length) && match ops[k]? with
  | some o => o.after.any fun e => Region.binds .any e && waitsGB ops 30 e.on (E.getD m 0)
  | none => false
theorem chain_least (hch : chainB ops E = true) {L : Nat → Bool} {m k : Nat} {o : Oper} (ho : ops[k]? = some o) (hb : behindB ops E k m = true) (hc : Comes ops .any k o L) : m + 1 ≤ (E.filter L).length := by
  unfold behindB at hb
  rw [ho] at hb
  simp only [Bool.and_eq_true, decide_eq_true_eq] at hb
  obtain ⟨hm, hb⟩ := hb
  obtain ⟨e, he, hb⟩ := Array.any_eq_true'.1 hb
  rw [Bool.and_eq_true] at hb
  have hy := waitsGB_sound hc.closed 30 _ _ hb.2 (hc.ready e he hb.1)
  have hbef : ∀ i, i ≤ m → L (E.getD i 0) = true := by
    intro i hi
    have h2 := chain_down hch hc.closed i (m - i) (by omega)
    rw [show i + (m - i) = m by omega] at h2
    exact h2 hy
  have e1 : (E.take (m + 1)).filter L = E.take (m + 1) := by
    rw [List.filter_eq_self]
    intro x hx
    obtain ⟨i, hi, rfl⟩ := List.mem_iff_getElem.1 hx
    rw [List.length_take] at hi
    have := hbef i (by omega)
    rw [List.getD_eq_getElem?_getD, List.getElem?_eq_getElem (by omega)] at this
    rw [List.getElem_take]
    exact this
  have e2 : E.filter L = E.take (m + 1) ++ (E.drop (m + 1)).filter L := by
    conv => lhs; rw [← List.take_append_drop (m + 1) E]
    rw [List.filter_append, e1]
  rw [e2, List.length_append, List.length_take]
  omega

/-! ### the walk -/
def wpGA (P : Program) (ops : Array Oper) (C : Nat → World → Prop) (E : List Nat) (Q : Act → World → Prop) : Nat → List Oper → Act → Prop
  | _, [], a => ∀ w, C E.length w → Q a w
  | k, o :: rest, a => ∃ a', StepG P ops .any (CLp C E) k o a a' ∧ wpGA P ops C E Q (k + 1) rest a'
theorem wpGA_path {Q : Act → World → Prop} : ∀ (l : List Oper) (k : Nat) (a : Act), wpGA P ops C E Q k l a →
    ∃ S : Nat → Act, S 0 = a ∧ (∀ i o, l[i]? = some o → StepG P ops .any (CLp C E) (k + i) o (S i) (S (i + 1))) ∧ ∀ w, C E.length w → Q (S l.length) w
  | [], k, a, h => ⟨fun _ => a, rfl, fun i o hi => by simp at hi, h⟩
  | o :: rest, k, a, ⟨a', h1, h2⟩ => by
    obtain ⟨S, g0, g1, g2⟩ := wpGA_path rest (k + 1) a' h2
    refine ⟨fun i => match i with | 0 => a | i + 1 => S i, rfl, fun i o' hi => ?_, fun w hw => g2 w hw⟩
    cases i with
    | zero =>
      obtain rfl : o = o' := by simpa using hi
      show StepG P ops .any (CLp C E) (k + 0) o a (S 0)
      rw [g0]; exact h1
    | succ i =>
      have := g1 i o' (by simpa using hi)
      rw [show k + (i + 1) = k + 1 + i by omega]
      exact this
/-- THE REGION -/
theorem wp_region_G {id : Nat} {Q : Exit → Act → World → Prop} {a : Act} {w : World} {l : List Oper} (hm : P.follows .mixedOrders = true) (hB : Region.lexB .any l.toArray = true) (hD : dstsB l a.tmps.size = true) (hch : chainB l.toArray E = true)
    (hC : C 0 { w with drawn := w.drawn + 1 }) (h : wpGA P l.toArray C E (fun a' w' => Q .normal a' w') 0 l a) : (Code.region id l.toArray true).wp P Q a w := by
  obtain ⟨S, hS0, hst, hfin⟩ := wpGA_path l 0 a h
  have hB' : Region.lexFrom .any l.toArray l.toArray.size 0 (Array.replicate l.toArray.size false) = true := by
    simp only [Region.lexB, Bool.and_eq_true] at hB; exact hB.2
  have hf : ∀ j, (Array.replicate l.toArray.size false).getD j false = true → False := by
    intro j hl
    by_cases hi : j < l.length <;> simp [hi] at hl
  refine wp_region_any hm ?_
  refine wpAny_G (P := P) (ops := l.toArray) (CL := CLp C E) (md := .any) (a0 := a) (S := S) hS0 (fun k o hk => by have := hst k o (by simpa using hk); rw [Nat.zero_add] at this; exact this)
    (fun k o d hk hd => dsts_lt hD (k := k) (by simpa using hk) hd) (fun j k x y d hj hk hx hy => dsts_one hD (j := j) (k := k) (by simpa using hj) (by simpa using hk) hx hy)
    (fun i oi hi => lexFrom_free _ 0 _ hB' (by simp) (fun i => ?_) (by simp) i oi (Nat.zero_le _) hi) (fun a1 w1 L hcl hall ha => ?_) _ _ _ _ ⟨_, rfl, ?_⟩ ⟨?_, rfl, rfl, by simp, fun j oj hj hl => (hf j hl).elim, fun j oj d hj hl => (hf j hl).elim, fun t _ => rfl⟩
  · by_cases hi : i < l.length
    · simp [hi]
    · simp [hi]; omega
  · have e : E.filter L = E := List.filter_eq_self.2 (fun x hx => hall x (chain_lt hch x hx))
    unfold CLp at hcl
    rw [e] at hcl
    have := hfin w1 hcl
    rw [ha]
    simpa using this
  · rw [count_none]; simp
  · unfold CLp
    have e : E.filter (fun j => (Array.replicate l.toArray.size false).getD j false) = [] := List.filter_eq_nil_iff.2 (fun x _ h => hf x h)
    rw [e]
    exact hC

variable {Q : Act → World → Prop} {o : Oper} {rest : List Oper} {k : Nat} {fs : List Value} {ds : List Deferred}
/-- the walk over a list -/
def wpG (P : Program) (ops : Array Oper) (C : Nat → World → Prop) (E : List Nat) (Q : Act → World → Prop) (ds : List Deferred) (k : Nat) (l : List Oper) (fs : List Value) : Prop := wpGA P ops C E Q k l (mkA fs ds)
theorem wp_chain_list {id : Nat} {Q : Exit → Act → World → Prop} {w : World} {l : List Oper} {fs : List Value} {ds : List Deferred} (E : List Nat) (C : Nat → World → Prop) (hm : P.follows .mixedOrders = true) (hB : Region.lexB .any l.toArray = true) (hD : dstsB l fs.length = true) (hch : chainB l.toArray E = true)
    (hC : C 0 { w with drawn := w.drawn + 1 }) (h : wpG P l.toArray C E (fun a' w' => Q .normal a' w') ds 0 l fs) : (Code.region id l.toArray true).wp P Q ⟨fs.toArray, ds⟩ w :=
  wp_region_G hm hB (by simpa using hD) hch hC h
theorem wpG_skip (hE : E.contains k = false) (hw : wantedL ops fs o = false) (c : wpG P ops C E Q ds (k + 1) rest (setL fs o.dst undef)) : wpG P ops C E Q ds k (o :: rest) fs :=
  ⟨_, .skip (wantedL_eq.trans hw) (fun L w hc _ => by unfold CLp at *; rw [filter_upd_not hE]; exact hc), by rw [mkA_put]; exact c⟩
theorem wpG_run (v : Value) (hE : E.contains k = false) (hs : notSelect o = true) (hw : wantedL ops fs o = true) (hrun : ∀ j w, C j w → (execOp (ev fs) o).run P w = .ok (.value v) w) (c : wpG P ops C E Q ds (k + 1) rest (setL fs o.dst v)) : wpG P ops C E Q ds k (o :: rest) fs :=
  ⟨_, .val v (wantedL_eq.trans hw) (fun L a1 w hC _ ht K Q' hK => by
    have e : execOp a1.eval o = execOp (mkA fs ds).eval o := execOp_congr o (fun cs b h => by simp [notSelect, h] at hs) fun x hx => eval_looks ht x hx
    unfold Oper.wp
    rw [e, mkA_evalF, hrun _ w hC]
    exact hK _ (by unfold CLp at *; rw [filter_upd_not hE]; exact hC)), by rw [mkA_put]; exact c⟩
theorem wpG_run0 (v : Value) (hE : E.contains k = false) (hs : notSelect o = true) (hw : wantedL ops fs o = true) (hrun : ∀ j w (ρ : Operand → Value), C j w → (∀ c, ρ (.const c) = c) → (execOp ρ o).run P w = .ok (.value v) w) (c : wpG P ops C E Q ds (k + 1) rest (setL fs o.dst v)) : wpG P ops C E Q ds k (o :: rest) fs :=
  wpG_run v hE hs hw (fun j w hC => hrun j w _ hC fun _ => rfl) c
theorem wpG_run1 {x : Operand} (vx v : Value) (hE : E.contains k = false) (hx : ev fs x = vx) (hs : notSelect o = true) (hw : wantedL ops fs o = true) (hrun : ∀ j w (ρ : Operand → Value), C j w → ρ x = vx → (∀ c, ρ (.const c) = c) → (execOp ρ o).run P w = .ok (.value v) w) (c : wpG P ops C E Q ds (k + 1) rest (setL fs o.dst v)) : wpG P ops C E Q ds k (o :: rest) fs :=
  wpG_run v hE hs hw (fun j w hC => hrun j w _ hC hx fun _ => rfl) c
theorem wpG_run2 {x y : Operand} (vx vy v : Value) (hE : E.contains k = false) (hx : ev fs x = vx) (hy : ev fs y = vy) (hs : notSelect o = true) (hw : wantedL ops fs o = true) (hrun : ∀ j w (ρ : Operand → Value), C j w → ρ x = vx → ρ y = vy → (∀ c, ρ (.const c) = c) → (execOp ρ o).run P w = .ok (.value v) w) (c : wpG P ops C E Q ds (k + 1) rest (setL fs o.dst v)) : wpG P ops C E Q ds k (o :: rest) fs :=
  wpG_run v hE hs hw (fun j w hC => hrun j w _ hC hx hy fun _ => rfl) c
theorem wpG_move {x : Operand} (v : Value) (ho : o.op = .move x) (hE : E.contains k = false) (hv : ev fs x = v) (hw : wantedL ops fs o = true) (c : wpG P ops C E Q ds (k + 1) rest (setL fs o.dst v)) : wpG P ops C E Q ds k (o :: rest) fs :=
  wpG_run v hE (by simp [notSelect, ho]) hw (fun j w _ => by simp only [execOp, ho, hv]; rfl) c
theorem wpG_assign {x : Operand} (v : Value) (ho : o.op = .assign x) (hE : E.contains k = false) (hv : ev fs x = v) (hw : wantedL ops fs o = true) (c : wpG P ops C E Q ds (k + 1) rest (setL fs o.dst v)) : wpG P ops C E Q ds k (o :: rest) fs :=
  wpG_run v hE (by simp [notSelect, ho]) hw (fun j w _ => by simp only [execOp, ho, hv]; rfl) c
/-- a call of the chain, the j-th of it -/
theorem wpG_fn (j : Nat) (v : Value) {f : FuncId} {xs : List Operand} {ts : Array TypeId} (args : List Value) (hch : chainB ops E = true) (hk : ops[k]? = some o) (hj : E[j]? = some k) (ho : o.op = .call { callee := .value (.func f), args := xs.toArray, argTypes := ts }) (ha : xs.map (ev fs) = args) (hw : wantedL ops fs o = true)
    (hfn : ∀ (args : Array Value) w, (callFunc f args).run P w = .ok (.enter f args) w) (hc : ∀ w, C j w → Calls P f args.toArray w fun e w' => e = .returned v ∧ C (j + 1) w') (c : wpG P ops C E Q ds (k + 1) rest (setL fs o.dst v)) : wpG P ops C E Q ds k (o :: rest) fs :=
  ⟨_, .val v (wantedL_eq.trans hw) (fun L a1 w hC hcm ht K Q' hK => by
    have e : execOp a1.eval o = execOp (mkA fs ds).eval o := execOp_congr o (fun cs b h => by rw [ho] at h; cases h) fun x hx => eval_looks ht x hx
    obtain ⟨p1, p2⟩ := chain_phase hch hj hk hcm
    unfold CLp at hC
    rw [p1] at hC
    unfold Oper.wp
    rw [e, mkA_evalF, enter_of ho _ rfl hfn, ha]
    refine (hc w hC).mono fun e w' ⟨he, hb⟩ => ?_
    subst he
    exact hK _ (by unfold CLp; rw [p2]; exact hb)), by rw [mkA_put]; exact c⟩
/-- a call that leaves what there is as it was, however far the chain is -/
theorem wpG_fnB (v : Value) {f : FuncId} {xs : List Operand} {ts : Array TypeId} (args : List Value) (hE : E.contains k = false) (ho : o.op = .call { callee := .value (.func f), args := xs.toArray, argTypes := ts }) (ha : xs.map (ev fs) = args) (hw : wantedL ops fs o = true)
    (hfn : ∀ (args : Array Value) w, (callFunc f args).run P w = .ok (.enter f args) w) (hc : ∀ j w, C j w → Calls P f args.toArray w fun e w' => e = .returned v ∧ C j w') (c : wpG P ops C E Q ds (k + 1) rest (setL fs o.dst v)) : wpG P ops C E Q ds k (o :: rest) fs :=
  ⟨_, .val v (wantedL_eq.trans hw) (fun L a1 w hC _ ht K Q' hK => by
    have e : execOp a1.eval o = execOp (mkA fs ds).eval o := execOp_congr o (fun cs b h => by rw [ho] at h; cases h) fun x hx => eval_looks ht x hx
    unfold Oper.wp
    rw [e, mkA_evalF, enter_of ho _ rfl hfn, ha]
    refine (hc _ w hC).mono fun e w' ⟨he, hb⟩ => ?_
    subst he
    exact hK _ (by unfold CLp at *; rw [filter_upd_not hE]; exact hb)), by rw [mkA_put]; exact c⟩
/-- an operation, a call, behind the m-th of the chain -/
theorem wpG_runA (m : Nat) (v : Value) (hch : chainB ops E = true) (hk : ops[k]? = some o) (hb : behindB ops E k m = true) (hE : E.contains k = false) (hs : notSelect o = true) (hw : wantedL ops fs o = true) (hrun : ∀ j w, m + 1 ≤ j → C j w → (execOp (ev fs) o).run P w = .ok (.value v) w) (c : wpG P ops C E Q ds (k + 1) rest (setL fs o.dst v)) : wpG P ops C E Q ds k (o :: rest) fs :=
  ⟨_, .val v (wantedL_eq.trans hw) (fun L a1 w hC hcm ht K Q' hK => by
    have e : execOp a1.eval o = execOp (mkA fs ds).eval o := execOp_congr o (fun cs b h => by simp [notSelect, h] at hs) fun x hx => eval_looks ht x hx
    unfold Oper.wp
    rw [e, mkA_evalF, hrun _ w (chain_least hch hk hb hcm) hC]
    exact hK _ (by unfold CLp at *; rw [filter_upd_not hE]; exact hC)), by rw [mkA_put]; exact c⟩
theorem wpG_runA1 {x : Operand} (m : Nat) (vx v : Value) (hch : chainB ops E = true) (hk : ops[k]? = some o) (hb : behindB ops E k m = true) (hE : E.contains k = false) (hx : ev fs x = vx) (hs : notSelect o = true) (hw : wantedL ops fs o = true) (hrun : ∀ j w (ρ : Operand → Value), m + 1 ≤ j → C j w → ρ x = vx → (∀ c, ρ (.const c) = c) → (execOp ρ o).run P w = .ok (.value v) w) (c : wpG P ops C E Q ds (k + 1) rest (setL fs o.dst v)) : wpG P ops C E Q ds k (o :: rest) fs :=
  wpG_runA m v hch hk hb hE hs hw (fun j w hj hC => hrun j w _ hj hC hx fun _ => rfl) c
theorem wpG_fnA (m : Nat) (v : Value) {f : FuncId} {xs : List Operand} {ts : Array TypeId} (args : List Value) (hch : chainB ops E = true) (hk : ops[k]? = some o) (hb : behindB ops E k m = true) (hE : E.contains k = false) (ho : o.op = .call { callee := .value (.func f), args := xs.toArray, argTypes := ts }) (ha : xs.map (ev fs) = args) (hw : wantedL ops fs o = true)
    (hfn : ∀ (args : Array Value) w, (callFunc f args).run P w = .ok (.enter f args) w) (hc : ∀ j w, m + 1 ≤ j → C j w → Calls P f args.toArray w fun e w' => e = .returned v ∧ C j w') (c : wpG P ops C E Q ds (k + 1) rest (setL fs o.dst v)) : wpG P ops C E Q ds k (o :: rest) fs :=
  ⟨_, .val v (wantedL_eq.trans hw) (fun L a1 w hC hcm ht K Q' hK => by
    have e : execOp a1.eval o = execOp (mkA fs ds).eval o := execOp_congr o (fun cs b h => by rw [ho] at h; cases h) fun x hx => eval_looks ht x hx
    unfold Oper.wp
    rw [e, mkA_evalF, enter_of ho _ rfl hfn, ha]
    refine (hc _ w (chain_least hch hk hb hcm) hC).mono fun e w' ⟨he, hb⟩ => ?_
    subst he
    exact hK _ (by unfold CLp at *; rw [filter_upd_not hE]; exact hb)), by rw [mkA_put]; exact c⟩
theorem wpG_end (h : ∀ w, C E.length w → Q ⟨fs.toArray, ds⟩ w) : wpG P ops C E Q ds k [] fs := h
end
end Go.Own
