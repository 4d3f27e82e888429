/- Merged: LaxU LawGhoD GhaA LaxH GhaB -/
import Derived.Maps.RangeWalk
import Derived.Maps.OwnSet
import Derived.Test.YtlnhkiamhmjckaaU1
import Derived.Test.YtlnhkiamhmjckaaU2
set_option linter.unusedVariables false
section
namespace Go.Own
open Go.RowKit
/-- a guard looks at none of these slots -/
def guardFree (ops : Array Oper) (o : Oper) (D : List Tmp) : Bool :=
  match o.guard with
  | none => true
  | some (g, _) => match (ops[g]?).bind (·.dst) with
    | some d => !D.contains d
    | none => true
/-- the slots of D hold u -/
def ov (D : List Tmp) (a : Act) (u : Tmp → Value) : Act := { a with tmps := a.tmps.mapIdx fun i x => if D.contains i then u i else x }
def updT (u : Tmp → Value) (d : Tmp) (v : Value) : Tmp → Value := fun t => if t = d then v else u t
theorem ov_at (D : List Tmp) (a : Act) (u : Tmp → Value) (t : Nat) : (ov D a u).tmps[t]? = (a.tmps[t]?).map fun x => if D.contains t then u t else x := by
  simp [ov]
theorem ov_getD (D : List Tmp) (a : Act) (u : Tmp → Value) (t : Nat) : (ov D a u).tmps.getD t undef = if D.contains t ∧ t < a.tmps.size then u t else a.tmps.getD t undef := by
  simp only [Array.getD_eq_getD_getElem?, ov_at]
  by_cases ht : t < a.tmps.size
  · simp only [Array.getElem?_eq_getElem ht, Option.map_some, Option.getD_some, ht, and_true]
  · simp [ht]
theorem act_ext {a b : Act} (h : ∀ t : Nat, a.tmps[t]? = b.tmps[t]?) (hd : a.defers = b.defers) : a = b := by
  cases a; cases b
  simp only at h hd
  subst hd
  congr 1
  exact Array.ext_getElem? h
theorem put_at (a : Act) (d t : Tmp) (v : Value) : (a.put (some d) v).tmps[t]? = if d = t then (if d < a.tmps.size then some v else none) else a.tmps[t]? := by
  simp only [Act.put, Array.getElem?_setIfInBounds]
theorem wanted_ov {ops : Array Oper} {o : Oper} {D : List Tmp} (hg : guardFree ops o D = true) (a : Act) (u : Tmp → Value) : Region.wanted o (yielded ops (ov D a u).tmps) = Region.wanted o (yielded ops a.tmps) := by
  unfold Region.wanted
  cases hgd : o.guard with
  | none => rfl
  | some gw =>
    obtain ⟨g, want⟩ := gw
    have : yielded ops (ov D a u).tmps g = yielded ops a.tmps g := by
      unfold yielded
      cases hd : (ops[g]?).bind (·.dst) with
      | none => rfl
      | some d =>
        have hn : D.contains d = false := by simpa [guardFree, hgd, hd] using hg
        simp only [Option.bind_some, ov_at, hn, Bool.false_eq_true, if_false, Option.map_id']
    simp only [this]
theorem ov_swap {D : List Tmp} (a : Act) {d : Option Tmp} (hd : ∀ x, d = some x → D.contains x = false) (u : Tmp → Value) (v : Value) : ov D (a.put d v) u = (ov D a u).put d v := by
  cases d with
  | none => rfl
  | some d =>
    have hn := hd d rfl
    refine act_ext (fun t => ?_) rfl
    rw [ov_at, put_at, put_at, ov_at]
    have hs : (ov D a u).tmps.size = a.tmps.size := by simp [ov]
    rw [hs]
    by_cases e : d = t
    · subst e
      rw [if_pos rfl, if_pos rfl]
      simp only [hn, Bool.false_eq_true, if_false]
      split <;> rfl
    · rw [if_neg e, if_neg e]
theorem ov_new {D : List Tmp} (a : Act) {d : Tmp} (hD : D.contains d = true) (u : Tmp → Value) (v : Value) : (ov D a u).put (some d) v = ov D (a.put (some d) undef) (updT u d v) := by
  refine act_ext (fun t => ?_) rfl
  have hs : (ov D a u).tmps.size = a.tmps.size := by simp [ov]
  rw [ov_at, put_at, put_at, ov_at, hs]
  by_cases e : d = t
  · subst e
    rw [if_pos rfl, if_pos rfl, hD]
    split <;> simp [updT]
  · rw [if_neg e, if_neg e]
    simp only [updT, if_neg (Ne.symm e)]
section
variable {P : Program} {ops : Array Oper} {md : Region.Mode} {CL : (Nat → Bool) → (Tmp → Value) → World → Prop}
inductive StepU (P : Program) (ops : Array Oper) (md : Region.Mode) (CL : (Nat → Bool) → (Tmp → Value) → World → Prop) (D : List Tmp) (i : Nat) (o : Oper) (a : Act) : Act → Prop
  | skip (hd : ∀ x, o.dst = some x → D.contains x = false) (hg : guardFree ops o D = true) (hw : Region.wanted o (yielded ops a.tmps) = false) (hq : ∀ L u w, CL L u w → Comes ops md i o L → CL (updL L i) u w) : StepU P ops md CL D i o a (a.put o.dst undef)
  | val (v : Value) (hd : ∀ x, o.dst = some x → D.contains x = false) (hg : guardFree ops o D = true) (hw : Region.wanted o (yielded ops a.tmps) = true)
      (h : ∀ L a1 u w, CL L u w → Comes ops md i o L → (∀ t ∈ o.looksAt ops, a1.tmps.getD t undef = (ov D a u).tmps.getD t undef) → ∀ (K : Act → World → Prop) (Q : Exit → Act → World → Prop), (∀ w', CL (updL L i) u w' → K (a1.put o.dst v) w') → o.wp P a1 w K Q) : StepU P ops md CL D i o a (a.put o.dst v)
  | new (d : Tmp) (hd : o.dst = some d) (hD : D.contains d = true) (hg : guardFree ops o D = true) (hw : Region.wanted o (yielded ops a.tmps) = true)
      (h : ∀ L a1 u w, CL L u w → Comes ops md i o L → (∀ t ∈ o.looksAt ops, a1.tmps.getD t undef = (ov D a u).tmps.getD t undef) → ∀ (K : Act → World → Prop) (Q : Exit → Act → World → Prop), (∀ v w', CL (updL L i) (updT u d v) w' → K (a1.put (some d) v) w') → o.wp P a1 w K Q) : StepU P ops md CL D i o a (a.put o.dst undef)
theorem StepU.put {D : List Tmp} {i : Nat} {o : Oper} {a a' : Act} (h : StepU P ops md CL D i o a a') : ∃ v, a' = a.put o.dst v := by
  cases h with
  | skip => exact ⟨_, rfl⟩
  | val v => exact ⟨v, rfl⟩
  | new => exact ⟨_, rfl⟩
theorem sizesU {a0 : Act} {S : Nat → Act} (hS0 : S 0 = a0) (hst : ∀ (k : Nat) (o : Oper), ops[k]? = some o → ∃ v, S (k + 1) = (S k).put o.dst v) :
    ∀ k, k ≤ ops.size → (S k).tmps.size = a0.tmps.size ∧ (S k).defers = a0.defers
  | 0, _ => by rw [hS0]; exact ⟨rfl, rfl⟩
  | k + 1, hk => by
    have h := sizesU hS0 hst k (by omega)
    obtain ⟨v, g⟩ := hst k ops[k] (Array.getElem?_eq_getElem (by omega))
    rw [g]
    exact ⟨(put_size _ _ _).trans h.1, (put_defers _ _ _).trans h.2⟩
theorem otherU {a0 : Act} {S : Nat → Act} (hS0 : S 0 = a0) (hst : ∀ (k : Nat) (o : Oper), ops[k]? = some o → ∃ v, S (k + 1) = (S k).put o.dst v)
    (hin : ∀ (k : Nat) (o : Oper) (d : Tmp), ops[k]? = some o → o.dst = some d → d < a0.tmps.size) {t : Tmp} (m : Nat) :
    ∀ q, m + q ≤ ops.size → (∀ j oj, m ≤ j → j < m + q → ops[j]? = some oj → oj.dst ≠ some t) → (S (m + q)).tmps.getD t undef = (S m).tmps.getD t undef
  | 0, _, _ => rfl
  | q + 1, hq, hno => by
    have ih := otherU hS0 hst hin (t := t) m q (by omega) (fun j oj h1 h2 => hno j oj h1 (by omega))
    have hk : ops[m + q]? = some ops[m + q] := Array.getElem?_eq_getElem (by omega)
    have hs := sizesU hS0 hst (m + q) (by omega)
    obtain ⟨v, g⟩ := hst (m + q) _ hk
    refine Eq.trans ?_ ih
    show (S (m + q + 1)).tmps.getD t undef = _
    rw [g]
    have hd := hno (m + q) _ (by omega) (by omega) hk
    cases hdd : (ops[m + q]).dst with
    | none => rfl
    | some d => rw [put_getD _ d t v (by rw [hs.1]; exact hin _ _ d hk hdd), if_neg (fun e => hd (by rw [hdd, e]))]

theorem wpAny_U {D : List Tmp} {Q' : Exit → Act → World → Prop} {a0 : Act} {S : Nat → Act} (hS0 : S 0 = a0)
    (hst : ∀ (k : Nat) (o : Oper), ops[k]? = some o → StepU P ops md CL D k o (S k) (S (k + 1)))
    (hin : ∀ (k : Nat) (o : Oper) (d : Tmp), ops[k]? = some o → o.dst = some d → d < a0.tmps.size)
    (hone : ∀ (j k : Nat) (x y : Oper) (d : Tmp), ops[j]? = some x → ops[k]? = some y → x.dst = some d → y.dst = some d → j = k)
    (hlex : ∀ (i : Nat) (oi : Oper), ops[i]? = some oi → (∀ e ∈ oi.after, Region.binds md e = true → e.on < i) ∧ ∀ j oj, i < j → ops[j]? = some oj → (∃ e ∈ oj.after, Region.binds md e = true ∧ e.on = i) ∨ oi.apart ops oj = true)
    (hfin : ∀ (u : Tmp → Value) (w1 : World) (L : Nat → Bool), CL L u w1 → (∀ i, i < ops.size → L i = true) → Q' .normal (ov D (S ops.size) u) w1) :
    ∀ (fuel : Nat) (listed : Array Bool) (a1 : Act) (u : Tmp → Value) (w1 : World), (∃ s, (List.range ops.size).filter (fun i => !listed.getD i true) = s ∧ s.length = fuel) → InvG md ops (fun _ _ => True) a0 S listed a1 w1 → CL (fun j => listed.getD j false) u w1 → wpAny P md ops Q' fuel listed (ov D a1 u) w1 := by
  have hput : ∀ (k : Nat) (o : Oper), ops[k]? = some o → ∃ v, S (k + 1) = (S k).put o.dst v := fun k o hk => (hst k o hk).put
  have hready : ∀ listed : Array Bool, listed.size = ops.size → Region.ready md ops listed = [] → ∀ i, i < ops.size → listed.getD i true = true := by
    intro listed hls hr i
    induction i using Nat.strongRecOn with
    | _ i ih =>
      intro hi
      rcases hb : listed.getD i true with _ | _
      · exfalso
        have : i ∈ Region.ready md ops listed := by
          refine mem_ready.2 ⟨hb, ops[i], Array.getElem?_eq_getElem hi, fun e he hbd => ?_⟩
          have h1 := (hlex i _ (Array.getElem?_eq_getElem hi)).1 e he hbd
          have h2 := ih e.on h1 (by omega)
          have h3 : e.on < listed.size := by omega
          simpa [h3] using h2
        rw [hr] at this
        cases this
      · rfl
  have hend : ∀ (fuel : Nat) (listed : Array Bool) (a1 : Act) (u : Tmp → Value) (w1 : World), InvG md ops (fun _ _ => True) a0 S listed a1 w1 → CL (fun j => listed.getD j false) u w1 → (∀ i, i < ops.size → listed.getD i true = true) → wpAny P md ops Q' fuel listed (ov D a1 u) w1 := by
    intro fuel listed a1 u w1 hI hCL hall
    have hsz := sizesU hS0 hput ops.size (Nat.le_refl _)
    have hallf : ∀ i, i < ops.size → listed.getD i false = true := by
      intro i hi
      have h1 := hall i hi
      have h2 : i < listed.size := by rw [hI.lsize]; exact hi
      simpa [h2] using h1
    have hnr : Region.ready md ops listed = [] := by
      apply List.eq_nil_iff_forall_not_mem.2
      intro i hi
      obtain ⟨h0, o, ho, _⟩ := mem_ready.1 hi
      have := hall i (Array.getElem?_eq_some_iff.1 ho).1
      rw [this] at h0; cases h0
    have hfin2 := hfin u w1 _ hCL hallf
    have haeq : a1 = S ops.size := ?_
    · rw [← haeq] at hfin2
      exact wpAny_done hnr hfin2 fuel
    have hslot : ∀ t, a1.tmps.getD t undef = (S ops.size).tmps.getD t undef := by
      intro t
      by_cases hw : ∃ (j : Nat) (oj : Oper), ops[j]? = some oj ∧ oj.dst = some t
      · obtain ⟨j, oj, hj, hd⟩ := hw
        have hjl := (Array.getElem?_eq_some_iff.1 hj).1
        have h1 := hI.done j oj t hj (hallf j hjl) hd
        have h2 := otherU hS0 hput hin (t := t) (j + 1) (ops.size - (j + 1)) (by omega) (fun i oi h1 h2 hi hdi => by
          have := hone i j oi oj t hi hj hdi hd; omega)
        rw [show j + 1 + (ops.size - (j + 1)) = ops.size by omega] at h2
        exact h1.trans h2.symm
      · have h1 := hI.rest t (fun j oj hj hl hd => hw ⟨j, oj, hj, hd⟩)
        have h2 := otherU hS0 hput hin (t := t) 0 ops.size (by omega) (fun j oj _ h2 hj hd => hw ⟨j, oj, hj, hd⟩)
        rw [Nat.zero_add, hS0] at h2
        exact h1.trans h2.symm
    have hts : a1.tmps = (S ops.size).tmps := by
      apply Array.ext
      · rw [hI.size, hsz.1]
      · intro i h1 h2
        have := hslot i
        simpa [Array.getD, h1, h2] using this
    have hds : a1.defers = (S ops.size).defers := hI.defers.trans hsz.2.symm
    cases a1
    cases hS : S ops.size
    rw [hS] at hts hds
    simp only at hts hds
    subst hts hds
    rfl
  intro fuel
  induction fuel with
  | zero =>
    rintro listed a1 u w1 ⟨s, hs, hlen⟩ hI hCL
    refine hend 0 listed a1 u w1 hI hCL (fun i hi => ?_)
    have hnil : s = [] := List.eq_nil_of_length_eq_zero hlen
    subst hnil
    have := List.filter_eq_nil_iff.1 hs i (List.mem_range.2 (by omega))
    simpa using this
  | succ fuel ih =>
    rintro listed a1 u w1 ⟨s, hs, hlen⟩ hI hCL
    by_cases hdone : ∀ i, i < ops.size → listed.getD i true = true
    · exact hend (fuel + 1) listed a1 u w1 hI hCL hdone
    refine ⟨fun h0 => absurd (fun i hi => hready listed hI.lsize h0 i (by omega)) hdone, fun i hi => ?_⟩
    obtain ⟨hun, oi, hoi, hall⟩ := mem_ready.1 hi
    have hil := (Array.getElem?_eq_some_iff.1 hoi).1
    have hill : i < listed.size := by rw [hI.lsize]; exact hil
    have hunf : listed.getD i false = false := by simpa [hill] using hun
    have hcount : ∃ s', (List.range ops.size).filter (fun j => !(listed.setIfInBounds i true).getD j true) = s' ∧ s'.length = fuel := by
      refine ⟨_, rfl, ?_⟩
      have hn : (List.range ops.size).Nodup := List.nodup_range
      have e : (List.range ops.size).filter (fun j => !(listed.setIfInBounds i true).getD j true) = ((List.range ops.size).filter fun j => !listed.getD j true).erase i := by
        rw [List.Nodup.erase_eq_filter (List.Pairwise.filter _ hn), List.filter_filter]
        apply List.filter_congr
        intro j hj
        by_cases hji : j = i
        · subst hji; simp [hill]
        · rw [getD_set_ne true (Ne.symm hji)]; simp [hji]
      rw [e, List.length_erase_of_mem (List.mem_filter.2 ⟨List.mem_range.2 hil, by simp only [hun]; rfl⟩), hs, hlen]
      rfl
    have hlook : ∀ t ∈ oi.looksAt ops, a1.tmps.getD t undef = (S i).tmps.getD t undef := by
      intro t ht
      have hback : (∀ (j : Nat) (oj : Oper), ops[j]? = some oj → oj.dst = some t → i ≤ j) → (∀ (j : Nat) (oj : Oper), ops[j]? = some oj → oj.dst = some t → listed.getD j false = false) → a1.tmps.getD t undef = (S i).tmps.getD t undef := by
        intro h1 h2
        have h3 := otherU hS0 hput hin (t := t) 0 i (by omega) (fun j oj _ hj ho hd => by have := h1 j oj ho hd; omega)
        rw [Nat.zero_add, hS0] at h3
        refine Eq.trans (hI.rest t (fun j oj hj hl hd => ?_)) h3.symm
        rw [h2 j oj hj hd] at hl; cases hl
      by_cases hw : ∃ (j : Nat) (oj : Oper), ops[j]? = some oj ∧ oj.dst = some t
      · obtain ⟨j, oj, hj, hd⟩ := hw
        have huniq : ∀ (j' : Nat) (oj' : Oper), ops[j']? = some oj' → oj'.dst = some t → j' = j := fun j' oj' h1 h2 => hone j' j oj' oj t h1 hj h2 hd
        rcases Nat.lt_trichotomy j i with hji | hji | hji
        · rcases (hlex j oj hj).2 i oi hji hoi with ⟨e, he, hb, heq⟩ | hap
          · have hl : listed.getD j false = true := by rw [← heq]; exact hall e he hb
            have h1 := hI.done j oj t hj hl hd
            have h2 := otherU hS0 hput hin (t := t) (j + 1) (i - (j + 1)) (by omega) (fun j' oj' h1 _ h3 h4 => by have := huniq j' oj' h3 h4; omega)
            rw [show j + 1 + (i - (j + 1)) = i by omega] at h2
            exact h1.trans h2.symm
          · exact absurd ht ((Oper.apart_spec hap).1 t hd)
        · subst hji
          refine hback (fun j' oj' h1 h2 => by have := huniq j' oj' h1 h2; omega) (fun j' oj' h1 h2 => by rw [huniq j' oj' h1 h2]; exact hunf)
        · rcases (hlex i oi hoi).2 j oj hji hj with ⟨e, he, hb, heq⟩ | hap
          · refine hback (fun j' oj' h1 h2 => by have := huniq j' oj' h1 h2; omega) (fun j' oj' h1 h2 => ?_)
            rw [huniq j' oj' h1 h2]
            rcases hlj : listed.getD j false with _ | _
            · rfl
            · have := hI.closed j oj hj hlj e he hb
              rw [heq, hunf] at this; cases this
          · exact absurd ht ((Oper.apart_spec hap).2.2 t hd)
      · exact hback (fun j oj h1 h2 => absurd ⟨j, oj, h1, h2⟩ hw) (fun j oj h1 h2 => absurd ⟨j, oj, h1, h2⟩ hw)
    have hsz := sizesU hS0 hput i (by omega)
    have hsame : a1.tmps.size = (S i).tmps.size := hI.size.trans hsz.1.symm
    have hupd : (fun j => (listed.setIfInBounds i true).getD j false) = updL (fun j => listed.getD j false) i := by
      funext j
      unfold updL
      by_cases hji : j = i
      · subst hji; simp [hill]
      · rw [getD_set_ne false (Ne.symm hji), if_neg hji]
    have hcomes : Comes ops md i oi (fun j => listed.getD j false) := ⟨hunf, hI.closed, hall⟩
    have hnext : ∀ (v : Value) (w' : World), S (i + 1) = (S i).put oi.dst v → InvG md ops (fun _ _ => True) a0 S (listed.setIfInBounds i true) (a1.put oi.dst v) w' := by
      intro v w' hv
      have hget : ∀ t, oi.dst ≠ some t → (a1.put oi.dst v).tmps.getD t undef = a1.tmps.getD t undef := by
        intro t ht
        cases hd : oi.dst with
        | none => rfl
        | some d => rw [put_getD a1 d t v (by rw [hI.size]; exact hin i oi d hoi hd), if_neg (fun e => ht (by rw [hd, e]))]
      have hlist : ∀ j, (listed.setIfInBounds i true).getD j false = true → j = i ∨ listed.getD j false = true := by
        intro j hj
        by_cases hji : j = i
        · exact .inl hji
        · rw [getD_set_ne false (Ne.symm hji)] at hj; exact .inr hj
      refine ⟨trivial, (put_defers _ _ _).trans hI.defers, (put_size _ _ _).trans hI.size, by simpa using hI.lsize, fun j oj hj hl e he hbd => ?_, fun j oj d hj hl hd => ?_, fun t ht => ?_⟩
      · rcases hlist j hl with rfl | hl
        · obtain rfl : oj = oi := by rw [hoi] at hj; simpa using hj.symm
          exact getD_set_true (hall e he hbd)
        · exact getD_set_true (hI.closed j oj hj hl e he hbd)
      · rcases hlist j hl with rfl | hl
        · obtain rfl : oj = oi := by rw [hoi] at hj; simpa using hj.symm
          rw [hv, hd, put_getD a1 d d v (by rw [hI.size]; exact hin j oj d hj hd), if_pos rfl, put_getD (S j) d d v (by rw [hsz.1]; exact hin j oj d hj hd), if_pos rfl]
        · have hne : oi.dst ≠ some d := by
            intro h
            have := hone i j oi oj d hoi hj h hd
            subst this
            rw [hunf] at hl; cases hl
          rw [hget d hne]
          exact hI.done j oj d hj hl hd
      · have hne : oi.dst ≠ some t := ht i oi hoi (by simp [hill])
        rw [hget t hne]
        exact hI.rest t (fun j oj hj hl => ht j oj hj (getD_set_true hl))
    have hwl : Region.wanted oi (yielded ops a1.tmps) = Region.wanted oi (yielded ops (S i).tmps) :=
      wanted_looks (I := []) (w := w1) (by unfold guardKnown; split; rfl; split <;> rfl) hsame (fun t ht => hlook t ht)
    have hwl3 : guardFree ops oi D = true → Region.wanted oi (yielded ops (ov D a1 u).tmps) = Region.wanted oi (yielded ops (S i).tmps) := fun hg => (wanted_ov hg a1 u).trans hwl
    have hlook2 : ∀ t ∈ oi.looksAt ops, (ov D a1 u).tmps.getD t undef = (ov D (S i) u).tmps.getD t undef := by
      intro t ht
      rw [ov_getD, ov_getD, hlook t ht, hsame]
    have hstep := hst i oi hoi
    unfold wpOp
    simp only [hoi]
    generalize hSj : S (i + 1) = sj at *
    cases hstep with
    | skip hd hg hw hq =>
      rw [hwl3 hg, hw]
      simp only [Bool.false_eq_true, if_false]
      rw [← ov_swap a1 hd u undef]
      exact ih _ _ u _ hcount (hnext undef w1 rfl) (by rw [hupd]; exact hq _ u _ hCL hcomes)
    | val v hd hg hw h =>
      rw [hwl3 hg, hw]
      simp only [if_true]
      exact .inl (h _ _ u w1 hCL hcomes hlook2 _ _ (fun w' hu => by
        rw [← ov_swap a1 hd u v]
        exact ih _ _ u _ hcount (hnext v w' rfl) (by rw [hupd]; exact hu)))
    | new d hd hD hg hw h =>
      rw [hwl3 hg, hw]
      simp only [if_true]
      exact .inl (h _ _ u w1 hCL hcomes hlook2 _ _ (fun v w' hu => by
        rw [ov_new a1 hD u v]
        have hn := hnext undef w' rfl
        rw [hd] at hn
        exact ih _ _ _ _ hcount hn (by rw [hupd]; exact hu)))
end
/-! ### how far the chain is -/
def CLpU (C : Nat → Bool → (Tmp → Value) → World → Prop) (E : List Nat) (q : Nat) (L : Nat → Bool) (u : Tmp → Value) (w : World) : Prop := C (E.filter L).length (L q) u w
theorem upd_not {L : Nat → Bool} {k q : Nat} (h : (k == q) = false) : updL L k q = L q := by
  unfold updL
  rw [if_neg]
  intro e
  rw [e] at h
  simp at h
theorem upd_self {L : Nat → Bool} {k : Nat} : updL L k k = true := by unfold updL; rw [if_pos rfl]
section
variable {P : Program} {ops : Array Oper} {C : Nat → Bool → (Tmp → Value) → World → Prop} {E : List Nat} {q : Nat} {D : List Tmp}
def wpUA (P : Program) (ops : Array Oper) (C : Nat → Bool → (Tmp → Value) → World → Prop) (E : List Nat) (q : Nat) (D : List Tmp) (Q : Act → World → Prop) : Nat → List Oper → Act → Prop
  | _, [], a => ∀ u w, C E.length true u w → Q (ov D a u) w
  | k, o :: rest, a => ∃ a', StepU P ops .any (CLpU C E q) D k o a a' ∧ wpUA P ops C E q D Q (k + 1) rest a'
theorem wpUA_path {Q : Act → World → Prop} : ∀ (l : List Oper) (k : Nat) (a : Act), wpUA P ops C E q D Q k l a →
    ∃ S : Nat → Act, S 0 = a ∧ (∀ i o, l[i]? = some o → StepU P ops .any (CLpU C E q) D (k + i) o (S i) (S (i + 1))) ∧ ∀ u w, C E.length true u w → Q (ov D (S l.length) u) w
  | [], k, a, h => ⟨fun _ => a, rfl, fun i o hi => by simp at hi, h⟩
  | o :: rest, k, a, ⟨a', h1, h2⟩ => by
    obtain ⟨S, g0, g1, g2⟩ := wpUA_path rest (k + 1) a' h2
    refine ⟨fun i => match i with | 0 => a | i + 1 => S i, rfl, fun i o' hi => ?_, fun u w hw => g2 u w hw⟩
    cases i with
    | zero =>
      obtain rfl : o = o' := by simpa using hi
      show StepU P ops .any (CLpU C E q) D (k + 0) o a (S 0)
      rw [g0]; exact h1
    | succ i =>
      have := g1 i o' (by simpa using hi)
      rw [show k + (i + 1) = k + 1 + i by omega]
      exact this
theorem ov_same (D : List Tmp) (a : Act) : ov D a (fun t => a.tmps.getD t undef) = a := by
  refine act_ext (fun t => ?_) rfl
  rw [ov_at]
  by_cases ht : t < a.tmps.size
  · rw [Array.getElem?_eq_getElem ht]
    simp [Array.getD, ht]
  · rw [Array.getElem?_eq_none (Nat.le_of_not_lt ht)]
    rfl
/-- THE REGION -/
theorem wp_region_U {id : Nat} {Q : Exit → Act → World → Prop} {a : Act} {w : World} {l : List Oper} (hm : P.follows .mixedOrders = true) (hB : Region.lexB .any l.toArray = true) (hD : dstsB l a.tmps.size = true) (hch : chainB l.toArray E = true) (hq : decide (q < l.length) = true)
    (hC : C 0 false (fun t => a.tmps.getD t undef) { w with drawn := w.drawn + 1 }) (h : wpUA P l.toArray C E q D (fun a' w' => Q .normal a' w') 0 l a) : (Code.region id l.toArray true).wp P Q a w := by
  obtain ⟨S, hS0, hst, hfin⟩ := wpUA_path l 0 a h
  have hB' : Region.lexFrom .any l.toArray l.toArray.size 0 (Array.replicate l.toArray.size false) = true := by
    simp only [Region.lexB, Bool.and_eq_true] at hB; exact hB.2
  have hf : ∀ j, (Array.replicate l.toArray.size false).getD j false = true → False := by
    intro j hl
    by_cases hi : j < l.length <;> simp [hi] at hl
  refine wp_region_any hm ?_
  have key := wpAny_U (P := P) (ops := l.toArray) (CL := CLpU C E q) (md := .any) (a0 := a) (S := S) (D := D) (Q' := Q) hS0 (fun k o hk => by have := hst k o (by simpa using hk); rw [Nat.zero_add] at this; exact this)
    (fun k o d hk hd => dsts_lt hD (k := k) (by simpa using hk) hd) (fun j k x y d hj hk hx hy => dsts_one hD (j := j) (k := k) (by simpa using hj) (by simpa using hk) hx hy)
    (fun i oi hi => lexFrom_free _ 0 _ hB' (by simp) (fun i => ?_) (by simp) i oi (Nat.zero_le _) hi) (fun u w1 L hcl hall => ?_) (l.toArray.size) (Array.replicate l.toArray.size false) a (fun t => a.tmps.getD t undef) { w with drawn := w.drawn + 1 } ⟨_, rfl, ?_⟩ ⟨trivial, rfl, rfl, by simp, fun j oj hj hl => (hf j hl).elim, fun j oj d hj hl => (hf j hl).elim, fun t _ => rfl⟩ ?_
  · rw [ov_same] at key
    exact key
  · by_cases hi : i < l.length
    · simp [hi]
    · simp [hi]; omega
  · have e : E.filter L = E := List.filter_eq_self.2 (fun x hx => hall x (chain_lt hch x hx))
    unfold CLpU at hcl
    rw [e] at hcl
    rw [hall q (by simpa using hq)] at hcl
    have := hfin u w1 hcl
    simpa using this
  · rw [count_none]; simp
  · unfold CLpU
    have e : E.filter (fun j => (Array.replicate l.toArray.size false).getD j false) = [] := List.filter_eq_nil_iff.2 (fun x _ h => hf x h)
    rw [e]
    have e2 : (Array.replicate l.toArray.size false).getD q false = false := by
      cases h : (Array.replicate l.toArray.size false).getD q false
      · rfl
      · exact (hf q h).elim
    show C _ ((Array.replicate l.toArray.size false).getD q false) _ _
    rw [e2]
    exact hC
variable {Q : Act → World → Prop} {o : Oper} {rest : List Oper} {k : Nat} {fs : List Value} {ds : List Deferred}
/-- the slots with u laid over -/
def ovF (D : List Tmp) (u : Tmp → Value) : Nat → List Value → List Value
  | _, [] => []
  | i, x :: l => (if D.contains i then u i else x) :: ovF D u (i + 1) l
theorem ovF_at (D : List Tmp) (u : Tmp → Value) : ∀ (l : List Value) (i t : Nat), (ovF D u i l)[t]? = (l[t]?).map fun x => if D.contains (i + t) then u (i + t) else x
  | [], i, t => by simp [ovF]
  | x :: l, i, 0 => by simp [ovF]
  | x :: l, i, t + 1 => by
    simp only [ovF, List.getElem?_cons_succ, ovF_at D u l (i + 1) t]
    rw [show i + 1 + t = i + (t + 1) by omega]
theorem ovF_set (u : Tmp → Value) : ∀ (D : List Tmp) (fs : List Value), ovF D u 0 fs = D.foldl (fun l d => l.set d (u d)) fs
  | [], fs => by
    apply List.ext_getElem?
    intro t
    rw [ovF_at]
    simp
  | d :: D, fs => by
    rw [List.foldl_cons, ← ovF_set u D (fs.set d (u d))]
    apply List.ext_getElem?
    intro t
    rw [ovF_at, ovF_at, Nat.zero_add, List.getElem?_set]
    by_cases e : d = t
    · subst e
      rw [if_pos rfl]
      by_cases hl : d < fs.length
      · rw [if_pos hl, List.getElem?_eq_getElem hl]
        simp
      · rw [if_neg hl, List.getElem?_eq_none (Nat.le_of_not_lt hl)]
        rfl
    · rw [if_neg e]
      simp only [List.contains_cons]
      have : (t == d) = false := by simpa using fun h : t = d => e h.symm
      rw [this, Bool.false_or]
theorem ov_mkA (D : List Tmp) (u : Tmp → Value) : ov D (mkA fs ds) u = mkA (ovF D u 0 fs) ds := by
  refine act_ext (fun t => ?_) rfl
  rw [ov_at]
  show (fs.toArray[t]?).map _ = (ovF D u 0 fs).toArray[t]?
  rw [List.getElem?_toArray, List.getElem?_toArray, ovF_at, Nat.zero_add]
/-- the walk over a list -/
def wpU (P : Program) (ops : Array Oper) (C : Nat → Bool → (Tmp → Value) → World → Prop) (E : List Nat) (q : Nat) (D : List Tmp) (Q : Act → World → Prop) (ds : List Deferred) (k : Nat) (l : List Oper) (fs : List Value) : Prop := wpUA P ops C E q D Q k l (mkA fs ds)
theorem wp_chainU_list {id : Nat} {Q : Exit → Act → World → Prop} {w : World} {l : List Oper} {fs : List Value} {ds : List Deferred} (E : List Nat) (q : Nat) (D : List Tmp) (C : Nat → Bool → (Tmp → Value) → World → Prop) (hm : P.follows .mixedOrders = true) (hB : Region.lexB .any l.toArray = true) (hD : dstsB l fs.length = true) (hch : chainB l.toArray E = true) (hq : decide (q < l.length) = true)
    (hC : ∀ u, C 0 false u { w with drawn := w.drawn + 1 }) (h : wpU P l.toArray C E q D (fun a' w' => Q .normal a' w') ds 0 l fs) : (Code.region id l.toArray true).wp P Q ⟨fs.toArray, ds⟩ w :=
  wp_region_U hm hB (by simpa using hD) hch hq (hC _) h
/-- where an operation leaves its value: no slot of D; its guard looks at none of them -/
def freeB (ops : Array Oper) (o : Oper) (D : List Tmp) : Bool := guardFree ops o D && match o.dst with | some d => !D.contains d | none => true
theorem free_dst (h : freeB ops o D = true) : ∀ x, o.dst = some x → D.contains x = false := by
  intro x hx
  unfold freeB at h
  rw [hx] at h
  simp only [Bool.and_eq_true] at h
  simpa using h.2
theorem free_guard (h : freeB ops o D = true) : guardFree ops o D = true := by
  unfold freeB at h
  simp only [Bool.and_eq_true] at h
  exact h.1
theorem wpU_skip (hf : freeB ops o D = true) (hE : E.contains k = false) (hq : (k == q) = false) (hw : wantedL ops fs o = false) (c : wpU P ops C E q D Q ds (k + 1) rest (setL fs o.dst undef)) : wpU P ops C E q D Q ds k (o :: rest) fs :=
  ⟨_, .skip (free_dst hf) (free_guard hf) (wantedL_eq.trans hw) (fun L u w hc _ => by unfold CLpU at *; rw [filter_upd_not hE, upd_not hq]; exact hc), by rw [mkA_put]; exact c⟩
theorem wpU_run (v : Value) (hf : freeB ops o D = true) (hE : E.contains k = false) (hq : (k == q) = false) (hs : notSelect o = true) (hw : wantedL ops fs o = true) (hrun : ∀ j f u w, C j f u w → (execOp (ev (ovF D u 0 fs)) o).run P w = .ok (.value v) w) (c : wpU P ops C E q D Q ds (k + 1) rest (setL fs o.dst v)) : wpU P ops C E q D Q ds k (o :: rest) fs :=
  ⟨_, .val v (free_dst hf) (free_guard hf) (wantedL_eq.trans hw) (fun L a1 u w hC _ ht K Q' hK => by
    have e : execOp a1.eval o = execOp (mkA (ovF D u 0 fs) ds).eval o := execOp_congr o (fun cs b h => by simp [notSelect, h] at hs) fun x hx => eval_looks (by rw [← ov_mkA]; exact ht) x hx
    unfold Oper.wp
    rw [e, mkA_evalF, hrun _ _ u w hC]
    exact hK _ (by unfold CLpU at *; rw [filter_upd_not hE, upd_not hq]; exact hC)), by rw [mkA_put]; exact c⟩
theorem wpU_run1 {x : Operand} (vx v : Value) (hf : freeB ops o D = true) (hE : E.contains k = false) (hq : (k == q) = false) (hx : ∀ u, ev (ovF D u 0 fs) x = vx) (hs : notSelect o = true) (hw : wantedL ops fs o = true) (hrun : ∀ j f u w (ρ : Operand → Value), C j f u w → ρ x = vx → (∀ c, ρ (.const c) = c) → (execOp ρ o).run P w = .ok (.value v) w) (c : wpU P ops C E q D Q ds (k + 1) rest (setL fs o.dst v)) : wpU P ops C E q D Q ds k (o :: rest) fs :=
  wpU_run v hf hE hq hs hw (fun j f u w hC => hrun j f u w _ hC (hx u) fun _ => rfl) c
theorem wpU_run2 {x y : Operand} (vx vy v : Value) (hf : freeB ops o D = true) (hE : E.contains k = false) (hq : (k == q) = false) (hx : ∀ u, ev (ovF D u 0 fs) x = vx) (hy : ∀ u, ev (ovF D u 0 fs) y = vy) (hs : notSelect o = true) (hw : wantedL ops fs o = true) (hrun : ∀ j f u w (ρ : Operand → Value), C j f u w → ρ x = vx → ρ y = vy → (∀ c, ρ (.const c) = c) → (execOp ρ o).run P w = .ok (.value v) w) (c : wpU P ops C E q D Q ds (k + 1) rest (setL fs o.dst v)) : wpU P ops C E q D Q ds k (o :: rest) fs :=
  wpU_run v hf hE hq hs hw (fun j f u w hC => hrun j f u w _ hC (hx u) (hy u) fun _ => rfl) c
theorem wpU_move {x : Operand} (v : Value) (ho : o.op = .move x) (hf : freeB ops o D = true) (hE : E.contains k = false) (hq : (k == q) = false) (hv : ∀ u, ev (ovF D u 0 fs) x = v) (hw : wantedL ops fs o = true) (c : wpU P ops C E q D Q ds (k + 1) rest (setL fs o.dst v)) : wpU P ops C E q D Q ds k (o :: rest) fs :=
  wpU_run v hf hE hq (by simp [notSelect, ho]) hw (fun j f u w _ => by simp only [execOp, ho, hv u]; rfl) c
/-- a call of the chain, the j-th of it -/
theorem wpU_fn (j : Nat) (v : Value) {f : FuncId} {xs : List Operand} {ts : Array TypeId} (args : (Tmp → Value) → List Value) (hf : freeB ops o D = true) (hch : chainB ops E = true) (hk : ops[k]? = some o) (hj : E[j]? = some k) (hq : (k == q) = false) (ho : o.op = .call { callee := .value (.func f), args := xs.toArray, argTypes := ts }) (ha : ∀ u, xs.map (ev (ovF D u 0 fs)) = args u) (hw : wantedL ops fs o = true)
    (hfn : ∀ (args : Array Value) w, (callFunc f args).run P w = .ok (.enter f args) w) (hc : ∀ b u w, C j b u w → Calls P f (args u).toArray w fun e w' => e = .returned v ∧ C (j + 1) b u w') (c : wpU P ops C E q D Q ds (k + 1) rest (setL fs o.dst v)) : wpU P ops C E q D Q ds k (o :: rest) fs :=
  ⟨_, .val v (free_dst hf) (free_guard hf) (wantedL_eq.trans hw) (fun L a1 u w hC hcm ht K Q' hK => by
    have e : execOp a1.eval o = execOp (mkA (ovF D u 0 fs) ds).eval o := execOp_congr o (fun cs b h => by rw [ho] at h; cases h) fun x hx => eval_looks (by rw [← ov_mkA]; exact ht) x hx
    obtain ⟨p1, p2⟩ := chain_phase hch hj hk hcm
    unfold CLpU at hC
    rw [p1] at hC
    unfold Oper.wp
    rw [e, mkA_evalF, enter_of ho _ rfl hfn, ha u]
    refine (hc _ u w hC).mono fun e w' ⟨he, hb⟩ => ?_
    subst he
    exact hK _ (by unfold CLpU; rw [p2, upd_not hq]; exact hb)), by rw [mkA_put]; exact c⟩
/-- .. whose value is not known ahead: it goes to a slot of D -/
theorem wpU_fnN (j : Nat) (d : Tmp) {f : FuncId} {xs : List Operand} {ts : Array TypeId} (args : (Tmp → Value) → List Value) (hd : o.dst = some d) (hD : D.contains d = true) (hg : guardFree ops o D = true) (hch : chainB ops E = true) (hk : ops[k]? = some o) (hj : E[j]? = some k) (hq : (k == q) = false) (ho : o.op = .call { callee := .value (.func f), args := xs.toArray, argTypes := ts }) (ha : ∀ u, xs.map (ev (ovF D u 0 fs)) = args u) (hw : wantedL ops fs o = true)
    (hfn : ∀ (args : Array Value) w, (callFunc f args).run P w = .ok (.enter f args) w) (hc : ∀ b u w, C j b u w → Calls P f (args u).toArray w fun e w' => ∃ v, e = .returned v ∧ C (j + 1) b (updT u d v) w') (c : wpU P ops C E q D Q ds (k + 1) rest (setL fs o.dst undef)) : wpU P ops C E q D Q ds k (o :: rest) fs :=
  ⟨_, .new d hd hD hg (wantedL_eq.trans hw) (fun L a1 u w hC hcm ht K Q' hK => by
    have e : execOp a1.eval o = execOp (mkA (ovF D u 0 fs) ds).eval o := execOp_congr o (fun cs b h => by rw [ho] at h; cases h) fun x hx => eval_looks (by rw [← ov_mkA]; exact ht) x hx
    obtain ⟨p1, p2⟩ := chain_phase hch hj hk hcm
    unfold CLpU at hC
    rw [p1] at hC
    unfold Oper.wp
    rw [e, mkA_evalF, enter_of ho _ rfl hfn, ha u]
    refine (hc _ u w hC).mono fun e w' ⟨v, he, hb⟩ => ?_
    subst he
    have := hK v w' (by unfold CLpU; rw [p2, upd_not hq]; exact hb)
    rw [hd]
    exact this), by rw [mkA_put]; exact c⟩
/-- operation number q, no operation of the chain, behind the m-th of it: its value is not known ahead -/
theorem wpU_runQ (m : Nat) (d : Tmp) (hd : o.dst = some d) (hD : D.contains d = true) (hg : guardFree ops o D = true) (hch : chainB ops E = true) (hk : ops[q]? = some o) (hb : behindB ops E q m = true) (hE : E.contains q = false) (hs : notSelect o = true) (hw : wantedL ops fs o = true)
    (hrun : ∀ j u w, m + 1 ≤ j → C j false u w → ∃ v, (execOp (ev (ovF D u 0 fs)) o).run P w = .ok (.value v) w ∧ C j true (updT u d v) w) (c : wpU P ops C E q D Q ds (q + 1) rest (setL fs o.dst undef)) : wpU P ops C E q D Q ds q (o :: rest) fs :=
  ⟨_, .new d hd hD hg (wantedL_eq.trans hw) (fun L a1 u w hC hcm ht K Q' hK => by
    have e : execOp a1.eval o = execOp (mkA (ovF D u 0 fs) ds).eval o := execOp_congr o (fun cs b h => by simp [notSelect, h] at hs) fun x hx => eval_looks (by rw [← ov_mkA]; exact ht) x hx
    unfold CLpU at hC
    rw [hcm.not] at hC
    obtain ⟨v, hr, hC'⟩ := hrun _ u w (chain_least hch hk hb hcm) hC
    unfold Oper.wp
    rw [e, mkA_evalF, hr]
    have := hK v w (by unfold CLpU; rw [filter_upd_not hE, upd_self]; exact hC')
    rw [← hd] at this
    exact this), by rw [mkA_put]; exact c⟩
/-- a call of the chain that waits for operation number q -/
theorem wpU_fnQ (j : Nat) (v : Value) {f : FuncId} {xs : List Operand} {ts : Array TypeId} (args : (Tmp → Value) → List Value) (hf : freeB ops o D = true) (hch : chainB ops E = true) (hk : ops[k]? = some o) (hj : E[j]? = some k) (hq : (k == q) = false) (hwq : (o.after.any fun e => Region.binds .any e && waitsGB ops 12 e.on q) = true) (ho : o.op = .call { callee := .value (.func f), args := xs.toArray, argTypes := ts }) (ha : ∀ u, xs.map (ev (ovF D u 0 fs)) = args u) (hw : wantedL ops fs o = true)
    (hfn : ∀ (args : Array Value) w, (callFunc f args).run P w = .ok (.enter f args) w) (hc : ∀ u w, C j true u w → Calls P f (args u).toArray w fun e w' => e = .returned v ∧ C (j + 1) true u w') (c : wpU P ops C E q D Q ds (k + 1) rest (setL fs o.dst v)) : wpU P ops C E q D Q ds k (o :: rest) fs :=
  ⟨_, .val v (free_dst hf) (free_guard hf) (wantedL_eq.trans hw) (fun L a1 u w hC hcm ht K Q' hK => by
    have e : execOp a1.eval o = execOp (mkA (ovF D u 0 fs) ds).eval o := execOp_congr o (fun cs b h => by rw [ho] at h; cases h) fun x hx => eval_looks (by rw [← ov_mkA]; exact ht) x hx
    obtain ⟨p1, p2⟩ := chain_phase hch hj hk hcm
    have hLq : L q = true := by
      obtain ⟨e2, he, hb⟩ := Array.any_eq_true'.1 hwq
      rw [Bool.and_eq_true] at hb
      exact waitsGB_sound hcm.closed 12 _ _ hb.2 (hcm.ready e2 he hb.1)
    unfold CLpU at hC
    rw [p1, hLq] at hC
    unfold Oper.wp
    rw [e, mkA_evalF, enter_of ho _ rfl hfn, ha u]
    refine (hc u w hC).mono fun e w' ⟨he, hb⟩ => ?_
    subst he
    exact hK _ (by unfold CLpU; rw [p2, upd_not hq, hLq]; exact hb)), by rw [mkA_put]; exact c⟩
theorem wpU_end (h : ∀ u w, C E.length true u w → Q ⟨(ovF D u 0 fs).toArray, ds⟩ w) : wpU P ops C E q D Q ds k [] fs := fun u w hC => by
  rw [ov_mkA]
  exact h u w hC
end
end Go.Own

end
section
namespace Go.Proofs.Ytlnhkiamhmjckaa
open Go.RowKit Go.Own
namespace Gho
open Go.GhoM Byt
theorem fldA {o : Oper} {X : Operand} {k : Nat} (ho : o.op = .fieldAddr 35 X k) (hk : k < 2) {p : Nat} (ρ : Operand → Value) (w : World) (h0 : ρ X = ptr p) : (execOp ρ o).run Try.prog w = .ok (.value (.pointer (some ⟨p, k, none⟩))) w := by
  match k, hk with
  | 0, _ => simp [execOp, ho, h0, go_sem, add_of]
  | 1, _ => simp [execOp, ho, h0, go_sem, add_of]
theorem fldL {o : Oper} {X : Operand} (ho : o.op = .fieldAddr 31 X 0) {p : Nat} (ρ : Operand → Value) (w : World) (h0 : ρ X = ptr p) : (execOp ρ o).run Try.prog w = .ok (.value (ptr p)) w := by
  simp [execOp, ho, h0, go_sem, add_of]
section
variable {W : World}
/-- what the world is like in an act's region: so many calls have been, the document's list has been loaded (f) into the slot 83, the other one's answer lies in 79 -/
def PC (K : Kept W) (b10 : Nat) (cs : List Value) (p pw : Nat) (g g2 : G) (v : Value) : Nat → Bool → (Tmp → Value) → World → Prop
  | 0, f, _, wx => f = false ∧ Own.St W.heap.size W wx [AVals b10 35 cs, K.A p g, ARefG pw v g]
  | 1, f, _, wx => f = false ∧ Own.St W.heap.size W wx [AVals b10 35 cs, K.A p g2, ARefG pw v g]
  | 2, f, u, wx => ∃ v', Own.St W.heap.size W wx [AVals b10 35 cs, K.A p g2, ARefG pw v' g2] ∧ (f = true → u 83 = v')
  | _, f, u, wx => ∃ v' ao c, Own.St W.heap.size W wx [AVals b10 35 cs, K.A p g2, ARefG pw v' g2, RowU (.slice ao g2.L.length c) g2.L g2.L.length] ∧ (f = true → u 83 = v') ∧ u 79 = .slice ao g2.L.length c
theorem pc_cells {x0 x1 : Value} {K : Kept W} {b10 p pw : Nat} {cs : List Value} {g g2 : G} {v : Value} (h0 : cs[0]? = some x0) (h1 : cs[1]? = some x1) : ∀ j f u wx, PC K b10 cs p pw g g2 v j f u wx → wx.cell? ⟨b10, 0, none⟩ = some x0 ∧ wx.cell? ⟨b10, 1, none⟩ = some x1
  | 0, f, u, wx, ⟨_, h⟩ => ⟨(h.cellV 0 rfl 0 h0).1, (h.cellV 0 rfl 1 h1).1⟩
  | 1, f, u, wx, ⟨_, h⟩ => ⟨(h.cellV 0 rfl 0 h0).1, (h.cellV 0 rfl 1 h1).1⟩
  | 2, f, u, wx, ⟨_, h, _⟩ => ⟨(h.cellV 0 rfl 0 h0).1, (h.cellV 0 rfl 1 h1).1⟩
  | _ + 3, f, u, wx, ⟨_, _, _, h, _⟩ => ⟨(h.cellV 0 rfl 0 h0).1, (h.cellV 0 rfl 1 h1).1⟩
end
set_option maxRecDepth 10000 in
set_option maxHeartbeats 25600000 in
theorem walk_plays (room : Int) (hroom : -9223372036854775808 ≤ room ∧ room ≤ 9223372036854775807) (a1 : Option Addr) (len1 cap1 : Nat) (l : List ActD) {w : World} (w1 : inSlice 2 inAct l w.heap.size w [.slice a1 len1 cap1]) (K : Kept w) :
    Calls Try.prog 3 #[.int .i64 room, .slice a1 len1 cap1] w (RetYes w) := by
  obtain ⟨hlen, hcap, hmax, hnil, hat⟩ := acts_inE actVs_len w1
  have SH := Lib.hid (shown_any K (Below.refl _ _))
  have HF := Lib.hid (few_any a1 len1 cap1 hcap hmax)
  have HAT := Lib.hid hat
  have HLEN := Lib.hid hlen
  have N1 := fun (wx : World) (hwx : Below w.heap.size w wx) => K.new (w := wx) (B := w.heap.size) (w0 := w) (Ps := []) room hwx ((Own.St.start w).later hwx) hroom
  clear hat hlen w1 hmax hnil
  by_cases hm : mayBe room = true
  · obtain ⟨n, rfl⟩ : ∃ n : Nat, room = (n : Int) := ⟨room.toNat, by unfold mayBe at hm; simp at hm; omega⟩
    have hn : n ≤ 4096 := by unfold mayBe at hm; simp at hm; omega
    simp only [hm, if_true, Int.toNat_natCast] at N1
    have N1 := Lib.hid N1
    have q1 : ¬ (n : Int) < 0 := by omega
    have q2 : ¬ (n : Int) > 4096 := by omega
    clear hm hroom
    go_enter Try.func3, Try.ntmps3
    go_wp2_with (fail)
    refine SH.out.mono ?_
    rintro e wa ⟨rfl, h1⟩
    have U1 := Lib.hid h1
    clear h1 SH
    go_wp2_with (fail)
    refine (N1.out _ U1.out).mono ?_
    clear N1
    rintro e wb ⟨p, rfl, h⟩
    have hb := h.boxV 31 (gC (.slice none 0 0) n)
    obtain ⟨pw, hpw⟩ : ∃ b, b = wb.heap.size := ⟨_, rfl⟩
    obtain ⟨w5, hw5⟩ : ∃ W, W = wb.alloc (.cells (gC (.slice none 0 0) n).toArray 31) := ⟨_, rfl⟩
    rw [← hpw, ← hw5] at hb
    have H3 : Hid (Own.St w.heap.size w w5 [K.A p (newG n), ARefG pw (.slice none 0 0) (newG n)]) := (ref_close (g := newG n) (hb.rowFresh.swap2)).swap2
    have HP := hpw.symm
    have E5 : wb.alloc (.cells #[.slice none 0 0, .int .i64 (n : Int)] 31) = w5 := by rw [hw5]; rfl
    clear h hb U1 hpw hw5
    go_wp2_with (fail)
    refine (HF.out _).mono ?_
    rintro e wc ⟨rfl, rfl⟩
    obtain ⟨k, hk⟩ : ∃ k, k = min len1 300 := ⟨_, rfl⟩
    rw [← hk]
    have hk1 : k ≤ len1 := by omega
    have hk2 : k ≤ 300 := by omega
    clear hk
    go_wp2
    go_loopw [44] (fun v44 wr => ∃ (i : Nat) (g : G) (v : Value), i ≤ k ∧ v44 = .int .i64 (i : Int) ∧ Own.St w.heap.size w wr [K.A p g, ARefG pw v g] ∧ Ok g ∧ g.room = n) (fun v44 _ => k - (intOf v44).toNat)
    case atStart => exact ⟨0, newG n, _, Nat.zero_le _, rfl, H3.out, ok_new n, rfl⟩
    case round =>
      obtain ⟨i, g, v, hik, rfl, h, hok, hrm⟩ := hrel
      have H := Lib.hid h
      have OK := Lib.hid hok
      have RM := Lib.hid hrm
      have RM2 : Hid (g.room ≤ 4096) := by show _ ≤ _; omega
      clear h hok hrm H3
      by_cases hi : (i : Int) < (k : Int)
      · have hik2 : i < k := by omega
        have hil : i < l.length := by rw [← HLEN.out]; omega
        obtain ⟨b, o, hbo, _, hra⟩ := HAT.out (by intro e; rw [e] at hil; exact absurd hil (Nat.not_lt_zero _))
        subst hbo
        have hr2 := hra wr (fun q hq => H.out.below.block q hq) i hil
        obtain ⟨gone, hgone⟩ : ∃ x, x = l[i].gone := ⟨_, rfl⟩
        obtain ⟨x, hx⟩ : ∃ x, x = l[i].addr := ⟨_, rfl⟩
        have hx32 : x < 4294967296 := by rw [hx]; exact hr2.2
        obtain ⟨cs, hcs⟩ : ∃ x, x = actVs l[i] := ⟨_, rfl⟩
        have RA : Hid (wr.rangeAt b (o + i * 2) cs) := by rw [hcs]; exact hr2.1
        have CSL : Hid (cs.length = 2) := by show _ = _; rw [hcs]; rfl
        have CS1 : Hid (∀ u ∈ cs, u.oneCell' = true) := by rw [hcs]; exact actVs_one _
        have K0 : Hid (cs[0]? = some (.bool gone)) := by show _ = _; rw [hcs, hgone]; rfl
        have K1 : Hid (cs[1]? = some (aV x)) := by show _ = _; rw [hcs, hx]; rfl
        have HX := Lib.hid hx32
        obtain ⟨hs, hhs⟩ : ∃ b, b = has g x := ⟨_, rfl⟩
        have hll : g.L.length ≤ 100000 := by have := OK.out.len; have := RM2.out; omega
        obtain ⟨g2, hg2⟩ : ∃ g2, g2 = if gone = true then GhoM.drop g x else GhoM.ask g x := ⟨_, rfl⟩
        have OK2 : Hid (Ok g2) := by
          show Ok g2
          rw [hg2]
          split
          · exact ok_drop OK.out x
          · exact ok_ask OK.out HX.out
        have RMG : Hid (g2.room = n) := by
          show _ = _
          rw [hg2]
          split
          · exact RM.out
          · rw [ask_room]; exact RM.out
        have hr4 : g2.room ≤ 4096 := by rw [RMG.out]; exact hn
        have D1 : Hid (∀ wx b10, Own.St w.heap.size w wx [AVals b10 35 cs, K.A p g, ARefG pw v g] → gone = true → Calls Try.prog 11 #[ptr p, aV x] wx fun e w' => e = .returned (.bool hs) ∧ Own.St w.heap.size w w' [AVals b10 35 cs, K.A p g2, ARefG pw v g]) := by
          intro wx b10 h hg
          rw [hhs, hg2, if_pos hg]
          exact (K.drop x h.below h.swap2 OK.out RM2.out HX.out).mono fun e w' h2 => ⟨h2.1, h2.2.swap2⟩
        have A1 : Hid (∀ wx b10, Own.St w.heap.size w wx [AVals b10 35 cs, K.A p g, ARefG pw v g] → gone = false → Calls Try.prog 13 #[ptr p, aV x] wx fun e w' => e = .returned (.bool hs) ∧ Own.St w.heap.size w w' [AVals b10 35 cs, K.A p g2, ARefG pw v g]) := by
          intro wx b10 h hg
          rw [hhs, hg2, if_neg (by rw [hg]; decide)]
          exact (K.ask x h.below h.swap2 OK.out RM2.out HX.out).mono fun e w' h2 => ⟨h2.1, h2.2.swap2⟩
        have D2 : Hid (∀ wx b10, Own.St w.heap.size w wx [AVals b10 35 cs, K.A p g2, ARefG pw v g] → gone = true → Calls Try.prog 12 #[ptr pw, aV x] wx fun e w' => e = .returned (.bool hs) ∧ ∃ v', Own.St w.heap.size w w' [AVals b10 35 cs, K.A p g2, ARefG pw v' g2]) := by
          intro wx b10 h hg
          rw [hhs]
          refine (dropR_any (h.perm (List.perm_middle (l₁ := [_, _]))) hll x).mono ?_
          rintro e w' ⟨e1, v', h2⟩
          rw [show GhoM.drop g x = g2 by rw [hg2, if_pos hg]] at h2
          exact ⟨e1, v', h2.perm (List.perm_middle (l₁ := [_, _])).symm⟩
        have A2 : Hid (∀ wx b10, Own.St w.heap.size w wx [AVals b10 35 cs, K.A p g2, ARefG pw v g] → gone = false → Calls Try.prog 14 #[ptr pw, aV x] wx fun e w' => e = .returned (.bool hs) ∧ ∃ v', Own.St w.heap.size w w' [AVals b10 35 cs, K.A p g2, ARefG pw v' g2]) := by
          intro wx b10 h hg
          rw [hhs]
          refine (askR_any (h.perm (List.perm_middle (l₁ := [_, _]))) hll (by have := RM2.out; omega) x).mono ?_
          rintro e w' ⟨e1, v', h2⟩
          rw [show GhoM.ask g x = g2 by rw [hg2, if_neg (by rw [hg]; decide)]] at h2
          exact ⟨e1, v', h2.perm (List.perm_middle (l₁ := [_, _])).symm⟩
        have AL : Hid (∀ b10 (b : Bool) (u : Tmp → Value) wx, PC K b10 cs p pw g g2 v 2 b u wx → Calls Try.prog 16 #[ptr p] wx fun e w' => ∃ y, e = .returned y ∧ PC K b10 cs p pw g g2 v 3 b (updT u 79 y) w') := by
          rintro b10 b u wx ⟨v', h, hf⟩
          refine (K.all h.below h.swap2 OK2.out hr4).mono ?_
          rintro e w' ⟨ao, c, e1, h2⟩
          have h3 := h2.perm (List.perm_append_comm (l₁ := [_]) (l₂ := [_, _, _]))
          exact ⟨_, e1, v', ao, c, h3.swap2, fun hb => by simp only [updT]; rw [if_neg (by decide)]; exact hf hb, by simp [updT]⟩
        have LW : Hid (∀ b10 j (u : Tmp → Value) wx, 2 ≤ j → PC K b10 cs p pw g g2 v j false u wx → ∃ y, wx.cell? ⟨pw, 0, none⟩ = some y ∧ PC K b10 cs p pw g g2 v j true (updT u 83 y) wx) := by
          intro b10 j u wx hj h
          match j, hj, h with
          | 2, _, ⟨v', h, _⟩ =>
            have ho := ref_open (h.perm (List.perm_middle (l₁ := [_, _])))
            exact ⟨v', (ho.cellV 0 rfl 0 rfl).1, v', h, fun _ => by simp [updT]⟩
          | j + 3, _, ⟨v', ao, c, h, _, h79⟩ =>
            have ho := ref_open (h.perm (List.perm_middle (l₁ := [_, _])))
            exact ⟨v', (ho.cellV 0 rfl 0 rfl).1, v', ao, c, h, fun _ => by simp [updT], by simp only [updT]; rw [if_neg (by decide)]; exact h79⟩
        have SM : Hid (∀ b10 (u : Tmp → Value) wx, PC K b10 cs p pw g g2 v 3 true u wx → Calls Try.prog 15 #[u 79, u 83] wx fun e w' => e = .returned (.bool true) ∧ PC K b10 cs p pw g g2 v 4 true u w') := by
          rintro b10 u wx ⟨v', ao, c, h, hf, h79⟩
          have ho := ref_open (h.perm (List.perm_middle (l₁ := [_, _])))
          have r1 := rd_own h 3 rfl
          have r2 := rd_own ho 1 rfl
          rw [h79, hf rfl]
          have hl2 : g2.L.length ≤ 1000000 := by have := OK2.out.len; omega
          refine (sameR_any g2.L g2.L g2.L.length g2.L.length _ _ wx r1 r2 rfl rfl hl2).mono ?_
          rintro e w' ⟨e1, hb⟩
          exact ⟨by rw [e1]; simp, v', ao, c, h.later hb, hf, h79⟩
        have FIN : Hid (∀ b10 (u : Tmp → Value) wx, PC K b10 cs p pw g g2 v 4 true u wx → ∃ v', Own.St w.heap.size w wx [K.A p g2, ARefG pw v' g2]) := by
          rintro b10 u wx ⟨v', ao, c, h, _, _⟩
          exact ⟨v', ((h.drop 1).perm (List.perm_append_comm (l₁ := [_, _]) (l₂ := [_]))).drop 1⟩
        clear hra hr2 hgone hx hcs hx32 hil hhs hg2 hll hr4
        go_wp2_with (first
          | (refine wpList_val rfl (idx_act rfl hik2 _ _ rfl rfl) ?_)
          | (refine wpList_val rfl (load_act cs CSL.out rfl _ (b := b) (k := o + i * 2) RA.out rfl) ?_)
          | (refine wpList_box2 boxy_act rfl rfl rfl (.tmp 10) (.tmp 47) rfl rfl cs (fun _ => rfl) (fun _ => rfl) CSL.out CS1.out H.out ?_; intro b10 w6 h; have H6 := Lib.hid h; clear h; go_simp))
        have CF := Lib.hid (pc_cells (K := K) (b10 := b10) (p := p) (pw := pw) (g := g) (g2 := g2) (v := v) K0.out K1.out)
        have C3 := Lib.hid (AL.out b10)
        have C5 := Lib.hid (SM.out b10)
        have C4 : Hid (∀ (j : Nat) (u : Tmp → Value) (wx : World), 1 + 1 ≤ j → PC K b10 cs p pw g g2 v j false u wx → ∀ (o : Oper), o.op = .load 29 (.tmp 82) → ∀ {ρ : Operand → Value}, ρ (.tmp 82) = ptr pw → ∃ y, (execOp ρ o).run Try.prog wx = .ok (.value y) wx ∧ PC K b10 cs p pw g g2 v j true (updT u 83 y) wx) := by
          intro j u wx hj hC o ho ρ hρ
          obtain ⟨y, hc, hP⟩ := LW.out b10 j u wx hj hC
          exact ⟨y, by simp [execOp, ho, hρ, go_sem, hc], hP⟩
        have FN := Lib.hid (FIN.out b10)
        have H7 := Lib.hid H6.out.drew
        clear AL SM LW FIN H6
        cases gone
        · have C1 : Hid (∀ (b : Bool) (wx : World) {u : Tmp → Value}, PC K b10 cs p pw g g2 v 0 b u wx → Calls Try.prog 13 #[ptr p, aV x] wx fun e w' => e = .returned (.bool hs) ∧ PC K b10 cs p pw g g2 v 1 b u w') := fun b wx u hC => (A1.out wx b10 hC.2 rfl).mono fun e w' h => ⟨h.1, hC.1, h.2⟩
          have C2 : Hid (∀ (b : Bool) (u : Tmp → Value) (wx : World), PC K b10 cs p pw g g2 v 1 b u wx → Calls Try.prog 14 #[ptr pw, aV x] wx fun e w' => e = .returned (.bool hs) ∧ PC K b10 cs p pw g g2 v 2 b u w') := fun b u wx hC => (A2.out wx b10 hC.2 rfl).mono fun e w' ⟨h1, v', h2⟩ => ⟨h1, v', h2, fun hb => by rw [hC.1] at hb; cases hb⟩
          clear D1 D2 A1 A2
          refine wp_chainU_list [21, 25, 31, 36] 35 [79, 83] (PC K b10 cs p pw g g2 v) (by kernel_rfl) (by kernel_rfl) (by kernel_rfl) (by kernel_rfl) (by kernel_rfl) (fun _ => ⟨rfl, H7.out⟩) ?_
          refine wpU_run1 (x := .tmp 10) (ptr b10) (ptr b10) (by kernel_rfl) (by kernel_rfl) (by kernel_rfl) (fun _ => by kernel_rfl) (by kernel_rfl) (by kernel_rfl) (fun j f u wx ρ hC h0 hc => fldA rfl (by decide) ρ wx h0) ?_
          refine wpU_run1 (x := .tmp 48) (ptr b10) (.bool false) (by kernel_rfl) (by kernel_rfl) (by kernel_rfl) (fun _ => by kernel_rfl) (by kernel_rfl) (by kernel_rfl) (fun j f u wx ρ hC h0 hc => by simp [go_sem, h0, (CF.out j f u wx hC).1]) ?_
          refine wpU_move (.bool false) rfl (by kernel_rfl) (by kernel_rfl) (by kernel_rfl) (fun _ => by kernel_rfl) (by kernel_rfl) ?_
          refine wpU_skip (by kernel_rfl) (by kernel_rfl) (by kernel_rfl) (by kernel_rfl) ?_
          refine wpU_skip (by kernel_rfl) (by kernel_rfl) (by kernel_rfl) (by kernel_rfl) ?_
          refine wpU_skip (by kernel_rfl) (by kernel_rfl) (by kernel_rfl) (by kernel_rfl) ?_
          refine wpU_skip (by kernel_rfl) (by kernel_rfl) (by kernel_rfl) (by kernel_rfl) ?_
          refine wpU_skip (by kernel_rfl) (by kernel_rfl) (by kernel_rfl) (by kernel_rfl) ?_
          refine wpU_skip (by kernel_rfl) (by kernel_rfl) (by kernel_rfl) (by kernel_rfl) ?_
          refine wpU_skip (by kernel_rfl) (by kernel_rfl) (by kernel_rfl) (by kernel_rfl) ?_
          refine wpU_skip (by kernel_rfl) (by kernel_rfl) (by kernel_rfl) (by kernel_rfl) ?_
          refine wpU_skip (by kernel_rfl) (by kernel_rfl) (by kernel_rfl) (by kernel_rfl) ?_
          refine wpU_run2 (x := .tmp 50) (y := .tmp 59) (.bool false) (undef) (.bool false) (by kernel_rfl) (by kernel_rfl) (by kernel_rfl) (fun _ => by kernel_rfl) (fun _ => by kernel_rfl) (by kernel_rfl) (by kernel_rfl) (fun j f u wx ρ hC h0 h1 hc => by simp [go_sem, h0, h1, hc]) ?_
          refine wpU_move (.bool false) rfl (by kernel_rfl) (by kernel_rfl) (by kernel_rfl) (fun _ => by kernel_rfl) (by kernel_rfl) ?_
          refine wpU_run1 (x := .tmp 10) (ptr b10) (ptr b10) (by kernel_rfl) (by kernel_rfl) (by kernel_rfl) (fun _ => by kernel_rfl) (by kernel_rfl) (by kernel_rfl) (fun j f u wx ρ hC h0 hc => fldA rfl (by decide) ρ wx h0) ?_
          refine wpU_run1 (x := .tmp 62) (ptr b10) (.bool false) (by kernel_rfl) (by kernel_rfl) (by kernel_rfl) (fun _ => by kernel_rfl) (by kernel_rfl) (by kernel_rfl) (fun j f u wx ρ hC h0 hc => by simp [go_sem, h0, (CF.out j f u wx hC).1]) ?_
          refine wpU_run1 (x := .tmp 63) (.bool false) (.bool true) (by kernel_rfl) (by kernel_rfl) (by kernel_rfl) (fun _ => by kernel_rfl) (by kernel_rfl) (by kernel_rfl) (fun j f u wx ρ hC h0 hc => by simp [go_sem, h0]) ?_
          refine wpU_move (.bool true) rfl (by kernel_rfl) (by kernel_rfl) (by kernel_rfl) (fun _ => by kernel_rfl) (by kernel_rfl) ?_
          refine wpU_move (ptr p) rfl (by kernel_rfl) (by kernel_rfl) (by kernel_rfl) (fun _ => by kernel_rfl) (by kernel_rfl) ?_
          refine wpU_run1 (x := .tmp 10) (ptr b10) (.pointer (some ⟨b10, 1, none⟩)) (by kernel_rfl) (by kernel_rfl) (by kernel_rfl) (fun _ => by kernel_rfl) (by kernel_rfl) (by kernel_rfl) (fun j f u wx ρ hC h0 hc => fldA rfl (by decide) ρ wx h0) ?_
          refine wpU_run1 (x := .tmp 67) (.pointer (some ⟨b10, 1, none⟩)) (aV x) (by kernel_rfl) (by kernel_rfl) (by kernel_rfl) (fun _ => by kernel_rfl) (by kernel_rfl) (by kernel_rfl) (fun j f u wx ρ hC h0 hc => by simp [go_sem, h0, (CF.out j f u wx hC).2]) ?_
          refine wpU_fn 0 (.bool hs) (fun _ => [ptr p, aV x]) (by kernel_rfl) (by kernel_rfl) rfl rfl (by kernel_rfl) rfl (fun _ => by kernel_rfl) (by kernel_rfl) (fun _ _ => by simp [go_sem]) (fun b u wx hC => C1.out b wx hC) ?_
          refine wpU_move (ptr pw) rfl (by kernel_rfl) (by kernel_rfl) (by kernel_rfl) (fun _ => by kernel_rfl) (by kernel_rfl) ?_
          refine wpU_run1 (x := .tmp 10) (ptr b10) (.pointer (some ⟨b10, 1, none⟩)) (by kernel_rfl) (by kernel_rfl) (by kernel_rfl) (fun _ => by kernel_rfl) (by kernel_rfl) (by kernel_rfl) (fun j f u wx ρ hC h0 hc => fldA rfl (by decide) ρ wx h0) ?_
          refine wpU_run1 (x := .tmp 71) (.pointer (some ⟨b10, 1, none⟩)) (aV x) (by kernel_rfl) (by kernel_rfl) (by kernel_rfl) (fun _ => by kernel_rfl) (by kernel_rfl) (by kernel_rfl) (fun j f u wx ρ hC h0 hc => by simp [go_sem, h0, (CF.out j f u wx hC).2]) ?_
          refine wpU_fn 1 (.bool hs) (fun _ => [ptr pw, aV x]) (by kernel_rfl) (by kernel_rfl) rfl rfl (by kernel_rfl) rfl (fun _ => by kernel_rfl) (by kernel_rfl) (fun _ _ => by simp [go_sem]) (fun b u wx hC => C2.out b u wx hC) ?_
          refine wpU_run2 (x := .tmp 69) (y := .tmp 73) (.bool hs) (.bool hs) (.bool false) (by kernel_rfl) (by kernel_rfl) (by kernel_rfl) (fun _ => by kernel_rfl) (fun _ => by kernel_rfl) (by kernel_rfl) (by kernel_rfl) (fun j f u wx ρ hC h0 h1 hc => by simp [go_sem, h0, h1]) ?_
          refine wpU_run2 (x := .tmp 65) (y := .tmp 74) (.bool true) (.bool false) (.bool false) (by kernel_rfl) (by kernel_rfl) (by kernel_rfl) (fun _ => by kernel_rfl) (fun _ => by kernel_rfl) (by kernel_rfl) (by kernel_rfl) (fun j f u wx ρ hC h0 h1 hc => by simp [go_sem, h0, h1, hc]) ?_
          refine wpU_run2 (x := .tmp 61) (y := .tmp 75) (.bool false) (.bool false) (.bool false) (by kernel_rfl) (by kernel_rfl) (by kernel_rfl) (fun _ => by kernel_rfl) (fun _ => by kernel_rfl) (by kernel_rfl) (by kernel_rfl) (fun j f u wx ρ hC h0 h1 hc => by simp [go_sem, h0, h1, hc]) ?_
          refine wpU_move (.bool false) rfl (by kernel_rfl) (by kernel_rfl) (by kernel_rfl) (fun _ => by kernel_rfl) (by kernel_rfl) ?_
          refine wpU_move (ptr p) rfl (by kernel_rfl) (by kernel_rfl) (by kernel_rfl) (fun _ => by kernel_rfl) (by kernel_rfl) ?_
          refine wpU_fnN 2 79 (fun _ => [ptr p]) rfl (by kernel_rfl) (by kernel_rfl) (by kernel_rfl) rfl rfl (by kernel_rfl) rfl (fun _ => by kernel_rfl) (by kernel_rfl) (fun _ _ => by simp [go_sem]) (fun b u wx hC => C3.out b u wx hC) ?_
          refine wpU_move (ptr pw) rfl (by kernel_rfl) (by kernel_rfl) (by kernel_rfl) (fun _ => by kernel_rfl) (by kernel_rfl) ?_
          refine wpU_run1 (x := .tmp 80) (ptr pw) (ptr pw) (by kernel_rfl) (by kernel_rfl) (by kernel_rfl) (fun _ => by kernel_rfl) (by kernel_rfl) (by kernel_rfl) (fun j f u wx ρ hC h0 hc => by simp [go_sem, h0]) ?_
          refine wpU_run1 (x := .tmp 81) (ptr pw) (ptr pw) (by kernel_rfl) (by kernel_rfl) (by kernel_rfl) (fun _ => by kernel_rfl) (by kernel_rfl) (by kernel_rfl) (fun j f u wx ρ hC h0 hc => fldL rfl ρ wx h0) ?_
          refine wpU_runQ 1 83 rfl (by kernel_rfl) (by kernel_rfl) (by kernel_rfl) rfl (by kernel_rfl) (by kernel_rfl) (by kernel_rfl) (by kernel_rfl) (fun j u wx hj hC => C4.out j u wx hj hC _ rfl (by kernel_rfl)) ?_
          refine wpU_fnQ 3 (.bool true) (fun u => [u 79, u 83]) (by kernel_rfl) (by kernel_rfl) rfl rfl (by kernel_rfl) (by kernel_rfl) rfl (fun _ => by kernel_rfl) (by kernel_rfl) (fun _ _ => by simp [go_sem]) (fun u wx hC => C5.out u wx hC) ?_
          refine wpU_run1 (x := .tmp 84) (.bool true) (.bool false) (by kernel_rfl) (by kernel_rfl) (by kernel_rfl) (fun _ => by kernel_rfl) (by kernel_rfl) (by kernel_rfl) (fun j f u wx ρ hC h0 hc => by simp [go_sem, h0]) ?_
          refine wpU_run2 (x := .tmp 77) (y := .tmp 85) (.bool false) (.bool false) (.bool false) (by kernel_rfl) (by kernel_rfl) (by kernel_rfl) (fun _ => by kernel_rfl) (fun _ => by kernel_rfl) (by kernel_rfl) (by kernel_rfl) (fun j f u wx ρ hC h0 h1 hc => by simp [go_sem, h0, h1, hc]) ?_
          refine wpU_end (fun u w9 hw9 => ?_)
          rw [ovF_set]
          simp only [List.foldl_cons, List.foldl_nil, setL, List.set_cons_zero, List.set_cons_succ]
          obtain ⟨v', h9⟩ := FN.out u w9 hw9
          have H9 := Lib.hid h9
          clear h9 hw9 FN C1 C2 C3 C4 C5 CF H7 H
          go_wp2_with (fail)
          go_roundw
          case rel => exact ⟨i + 1, g2, v', by omega, by go_num, H9.out, OK2.out, RMG.out⟩
          case measure => simp [intOf]; omega
        · have C1 : Hid (∀ (b : Bool) (wx : World) {u : Tmp → Value}, PC K b10 cs p pw g g2 v 0 b u wx → Calls Try.prog 11 #[ptr p, aV x] wx fun e w' => e = .returned (.bool hs) ∧ PC K b10 cs p pw g g2 v 1 b u w') := fun b wx u hC => (D1.out wx b10 hC.2 rfl).mono fun e w' h => ⟨h.1, hC.1, h.2⟩
          have C2 : Hid (∀ (b : Bool) (u : Tmp → Value) (wx : World), PC K b10 cs p pw g g2 v 1 b u wx → Calls Try.prog 12 #[ptr pw, aV x] wx fun e w' => e = .returned (.bool hs) ∧ PC K b10 cs p pw g g2 v 2 b u w') := fun b u wx hC => (D2.out wx b10 hC.2 rfl).mono fun e w' ⟨h1, v', h2⟩ => ⟨h1, v', h2, fun hb => by rw [hC.1] at hb; cases hb⟩
          clear D1 D2 A1 A2
          refine wp_chainU_list [6, 10, 31, 36] 35 [79, 83] (PC K b10 cs p pw g g2 v) (by kernel_rfl) (by kernel_rfl) (by kernel_rfl) (by kernel_rfl) (by kernel_rfl) (fun _ => ⟨rfl, H7.out⟩) ?_
          refine wpU_run1 (x := .tmp 10) (ptr b10) (ptr b10) (by kernel_rfl) (by kernel_rfl) (by kernel_rfl) (fun _ => by kernel_rfl) (by kernel_rfl) (by kernel_rfl) (fun j f u wx ρ hC h0 hc => fldA rfl (by decide) ρ wx h0) ?_
          refine wpU_run1 (x := .tmp 48) (ptr b10) (.bool true) (by kernel_rfl) (by kernel_rfl) (by kernel_rfl) (fun _ => by kernel_rfl) (by kernel_rfl) (by kernel_rfl) (fun j f u wx ρ hC h0 hc => by simp [go_sem, h0, (CF.out j f u wx hC).1]) ?_
          refine wpU_move (.bool true) rfl (by kernel_rfl) (by kernel_rfl) (by kernel_rfl) (fun _ => by kernel_rfl) (by kernel_rfl) ?_
          refine wpU_move (ptr p) rfl (by kernel_rfl) (by kernel_rfl) (by kernel_rfl) (fun _ => by kernel_rfl) (by kernel_rfl) ?_
          refine wpU_run1 (x := .tmp 10) (ptr b10) (.pointer (some ⟨b10, 1, none⟩)) (by kernel_rfl) (by kernel_rfl) (by kernel_rfl) (fun _ => by kernel_rfl) (by kernel_rfl) (by kernel_rfl) (fun j f u wx ρ hC h0 hc => fldA rfl (by decide) ρ wx h0) ?_
          refine wpU_run1 (x := .tmp 52) (.pointer (some ⟨b10, 1, none⟩)) (aV x) (by kernel_rfl) (by kernel_rfl) (by kernel_rfl) (fun _ => by kernel_rfl) (by kernel_rfl) (by kernel_rfl) (fun j f u wx ρ hC h0 hc => by simp [go_sem, h0, (CF.out j f u wx hC).2]) ?_
          refine wpU_fn 0 (.bool hs) (fun _ => [ptr p, aV x]) (by kernel_rfl) (by kernel_rfl) rfl rfl (by kernel_rfl) rfl (fun _ => by kernel_rfl) (by kernel_rfl) (fun _ _ => by simp [go_sem]) (fun b u wx hC => C1.out b wx hC) ?_
          refine wpU_move (ptr pw) rfl (by kernel_rfl) (by kernel_rfl) (by kernel_rfl) (fun _ => by kernel_rfl) (by kernel_rfl) ?_
          refine wpU_run1 (x := .tmp 10) (ptr b10) (.pointer (some ⟨b10, 1, none⟩)) (by kernel_rfl) (by kernel_rfl) (by kernel_rfl) (fun _ => by kernel_rfl) (by kernel_rfl) (by kernel_rfl) (fun j f u wx ρ hC h0 hc => fldA rfl (by decide) ρ wx h0) ?_
          refine wpU_run1 (x := .tmp 56) (.pointer (some ⟨b10, 1, none⟩)) (aV x) (by kernel_rfl) (by kernel_rfl) (by kernel_rfl) (fun _ => by kernel_rfl) (by kernel_rfl) (by kernel_rfl) (fun j f u wx ρ hC h0 hc => by simp [go_sem, h0, (CF.out j f u wx hC).2]) ?_
          refine wpU_fn 1 (.bool hs) (fun _ => [ptr pw, aV x]) (by kernel_rfl) (by kernel_rfl) rfl rfl (by kernel_rfl) rfl (fun _ => by kernel_rfl) (by kernel_rfl) (fun _ _ => by simp [go_sem]) (fun b u wx hC => C2.out b u wx hC) ?_
          refine wpU_run2 (x := .tmp 54) (y := .tmp 58) (.bool hs) (.bool hs) (.bool false) (by kernel_rfl) (by kernel_rfl) (by kernel_rfl) (fun _ => by kernel_rfl) (fun _ => by kernel_rfl) (by kernel_rfl) (by kernel_rfl) (fun j f u wx ρ hC h0 h1 hc => by simp [go_sem, h0, h1]) ?_
          refine wpU_run2 (x := .tmp 50) (y := .tmp 59) (.bool true) (.bool false) (.bool false) (by kernel_rfl) (by kernel_rfl) (by kernel_rfl) (fun _ => by kernel_rfl) (fun _ => by kernel_rfl) (by kernel_rfl) (by kernel_rfl) (fun j f u wx ρ hC h0 h1 hc => by simp [go_sem, h0, h1, hc]) ?_
          refine wpU_move (.bool false) rfl (by kernel_rfl) (by kernel_rfl) (by kernel_rfl) (fun _ => by kernel_rfl) (by kernel_rfl) ?_
          refine wpU_run1 (x := .tmp 10) (ptr b10) (ptr b10) (by kernel_rfl) (by kernel_rfl) (by kernel_rfl) (fun _ => by kernel_rfl) (by kernel_rfl) (by kernel_rfl) (fun j f u wx ρ hC h0 hc => fldA rfl (by decide) ρ wx h0) ?_
          refine wpU_run1 (x := .tmp 62) (ptr b10) (.bool true) (by kernel_rfl) (by kernel_rfl) (by kernel_rfl) (fun _ => by kernel_rfl) (by kernel_rfl) (by kernel_rfl) (fun j f u wx ρ hC h0 hc => by simp [go_sem, h0, (CF.out j f u wx hC).1]) ?_
          refine wpU_run1 (x := .tmp 63) (.bool true) (.bool false) (by kernel_rfl) (by kernel_rfl) (by kernel_rfl) (fun _ => by kernel_rfl) (by kernel_rfl) (by kernel_rfl) (fun j f u wx ρ hC h0 hc => by simp [go_sem, h0]) ?_
          refine wpU_move (.bool false) rfl (by kernel_rfl) (by kernel_rfl) (by kernel_rfl) (fun _ => by kernel_rfl) (by kernel_rfl) ?_
          refine wpU_skip (by kernel_rfl) (by kernel_rfl) (by kernel_rfl) (by kernel_rfl) ?_
          refine wpU_skip (by kernel_rfl) (by kernel_rfl) (by kernel_rfl) (by kernel_rfl) ?_
          refine wpU_skip (by kernel_rfl) (by kernel_rfl) (by kernel_rfl) (by kernel_rfl) ?_
          refine wpU_skip (by kernel_rfl) (by kernel_rfl) (by kernel_rfl) (by kernel_rfl) ?_
          refine wpU_skip (by kernel_rfl) (by kernel_rfl) (by kernel_rfl) (by kernel_rfl) ?_
          refine wpU_skip (by kernel_rfl) (by kernel_rfl) (by kernel_rfl) (by kernel_rfl) ?_
          refine wpU_skip (by kernel_rfl) (by kernel_rfl) (by kernel_rfl) (by kernel_rfl) ?_
          refine wpU_skip (by kernel_rfl) (by kernel_rfl) (by kernel_rfl) (by kernel_rfl) ?_
          refine wpU_skip (by kernel_rfl) (by kernel_rfl) (by kernel_rfl) (by kernel_rfl) ?_
          refine wpU_run2 (x := .tmp 65) (y := .tmp 74) (.bool false) (undef) (.bool false) (by kernel_rfl) (by kernel_rfl) (by kernel_rfl) (fun _ => by kernel_rfl) (fun _ => by kernel_rfl) (by kernel_rfl) (by kernel_rfl) (fun j f u wx ρ hC h0 h1 hc => by simp [go_sem, h0, h1, hc]) ?_
          refine wpU_run2 (x := .tmp 61) (y := .tmp 75) (.bool false) (.bool false) (.bool false) (by kernel_rfl) (by kernel_rfl) (by kernel_rfl) (fun _ => by kernel_rfl) (fun _ => by kernel_rfl) (by kernel_rfl) (by kernel_rfl) (fun j f u wx ρ hC h0 h1 hc => by simp [go_sem, h0, h1, hc]) ?_
          refine wpU_move (.bool false) rfl (by kernel_rfl) (by kernel_rfl) (by kernel_rfl) (fun _ => by kernel_rfl) (by kernel_rfl) ?_
          refine wpU_move (ptr p) rfl (by kernel_rfl) (by kernel_rfl) (by kernel_rfl) (fun _ => by kernel_rfl) (by kernel_rfl) ?_
          refine wpU_fnN 2 79 (fun _ => [ptr p]) rfl (by kernel_rfl) (by kernel_rfl) (by kernel_rfl) rfl rfl (by kernel_rfl) rfl (fun _ => by kernel_rfl) (by kernel_rfl) (fun _ _ => by simp [go_sem]) (fun b u wx hC => C3.out b u wx hC) ?_
          refine wpU_move (ptr pw) rfl (by kernel_rfl) (by kernel_rfl) (by kernel_rfl) (fun _ => by kernel_rfl) (by kernel_rfl) ?_
          refine wpU_run1 (x := .tmp 80) (ptr pw) (ptr pw) (by kernel_rfl) (by kernel_rfl) (by kernel_rfl) (fun _ => by kernel_rfl) (by kernel_rfl) (by kernel_rfl) (fun j f u wx ρ hC h0 hc => by simp [go_sem, h0]) ?_
          refine wpU_run1 (x := .tmp 81) (ptr pw) (ptr pw) (by kernel_rfl) (by kernel_rfl) (by kernel_rfl) (fun _ => by kernel_rfl) (by kernel_rfl) (by kernel_rfl) (fun j f u wx ρ hC h0 hc => fldL rfl ρ wx h0) ?_
          refine wpU_runQ 1 83 rfl (by kernel_rfl) (by kernel_rfl) (by kernel_rfl) rfl (by kernel_rfl) (by kernel_rfl) (by kernel_rfl) (by kernel_rfl) (fun j u wx hj hC => C4.out j u wx hj hC _ rfl (by kernel_rfl)) ?_
          refine wpU_fnQ 3 (.bool true) (fun u => [u 79, u 83]) (by kernel_rfl) (by kernel_rfl) rfl rfl (by kernel_rfl) (by kernel_rfl) rfl (fun _ => by kernel_rfl) (by kernel_rfl) (fun _ _ => by simp [go_sem]) (fun u wx hC => C5.out u wx hC) ?_
          refine wpU_run1 (x := .tmp 84) (.bool true) (.bool false) (by kernel_rfl) (by kernel_rfl) (by kernel_rfl) (fun _ => by kernel_rfl) (by kernel_rfl) (by kernel_rfl) (fun j f u wx ρ hC h0 hc => by simp [go_sem, h0]) ?_
          refine wpU_run2 (x := .tmp 77) (y := .tmp 85) (.bool false) (.bool false) (.bool false) (by kernel_rfl) (by kernel_rfl) (by kernel_rfl) (fun _ => by kernel_rfl) (fun _ => by kernel_rfl) (by kernel_rfl) (by kernel_rfl) (fun j f u wx ρ hC h0 h1 hc => by simp [go_sem, h0, h1, hc]) ?_
          refine wpU_end (fun u w9 hw9 => ?_)
          rw [ovF_set]
          simp only [List.foldl_cons, List.foldl_nil, setL, List.set_cons_zero, List.set_cons_succ]
          obtain ⟨v', h9⟩ := FN.out u w9 hw9
          have H9 := Lib.hid h9
          clear h9 hw9 FN C1 C2 C3 C4 C5 CF H7 H
          go_wp2_with (fail)
          go_roundw
          case rel => exact ⟨i + 1, g2, v', by omega, by go_num, H9.out, OK2.out, RMG.out⟩
          case measure => simp [intOf]; omega
      · go_wp2_with (fail)
        go_ret
        exact ⟨rfl, H.out.below⟩
  · simp only [hm, if_false, Bool.false_eq_true] at N1
    have N1 := Lib.hid N1
    have hm2 : room < 0 ∨ (¬ room < 0 ∧ room > 4096) := by unfold mayBe at hm; simp at hm; omega
    clear hm hroom HF HAT HLEN
    rcases hm2 with q1 | ⟨q1, q2⟩
    all_goals
      go_enter Try.func3, Try.ntmps3
      go_wp2_with (fail)
      refine SH.out.mono ?_
      rintro e wa ⟨rfl, h1⟩
      have U1 := Lib.hid h1
      clear h1 SH
      go_wp2_with (fail)
      refine (N1.out _ U1.out).mono ?_
      clear N1
      rintro e wb ⟨rfl, h⟩
      have H2 := Lib.hid h
      clear h
      go_wp2_with (fail)
      go_ret
      exact ⟨rfl, H2.out.below⟩
theorem in_plays (a0 : Int) (h0 : (Lit.int .i64 a0).wf = true) (a1 : Option Addr) (len1 cap1 : Nat) (l : List ActD) {w : World} (w1 : inSlice 2 inAct l w.heap.size w [.slice a1 len1 cap1]) (K : Kept w) :
    Calls Try.prog 3 #[.int .i64 a0, .slice a1 len1 cap1] w (RetYes w) :=
  walk_plays a0 (by simp [Lit.wf, IntKind.min, IntKind.max, IntKind.signed, IntKind.bits] at h0; omega) a1 len1 cap1 l w1 K
end Gho
end Go.Proofs.Ytlnhkiamhmjckaa

end
section
namespace Go.Proofs.Ytlnhkiamhmjckaa
open Go.RowKit Go.Own Go.Maps
namespace Gha
open Go.GhoM Byt Gho
abbrev nilP : Value := .pointer none
theorem u32Keyed : Keyed Try.prog 33 := int_keyed Try.underlying33
def kl (a : Nat) : Lit := .int .u32 (a : Int)
theorem kl_inj {a b : Nat} (h : kl a = kl b) : a = b := by
  unfold kl at h
  simp only [Lit.int.injEq, true_and] at h
  exact Int.ofNat.inj h
theorem key_of {a : Nat} (h : a < 4294967296) : keyOf Try.prog 33 (.int .u32 (a : Int)) = some (kl a) :=
  keyOf_int_mk Try.underlying33 (by simp [Lit.wf, IntKind.min, IntKind.max, IntKind.signed, IntKind.bits]; omega)
theorem mapT : Try.prog.underlying 44 = some (.map 33 45) := Try.underlying44
theorem zeroN (w : World) : (zeroValue 45).run Try.prog w = .ok nilP w := by kernel_rfl
abbrev KV := Nat × Value
/-- the map reads as the list -/
structure Reads (D : DataW Value) (s : List KV) : Prop where
  has : ∀ k, Maps.has D k = true ↔ ∃ e ∈ s, kl e.1 = k
  at_ : ∀ e ∈ s, ∀ zd, D.atKey (kl e.1) zd = .held e.2
  size : Maps.size D = s.length
def AOf (b : Nat) (s : List KV) : Asn where
  holds S w := (∃ D : DataW Value, w.ownsMap Try.prog 33 rawV b s.length D ∧ Reads D s) ∧ ∀ k, S k ↔ k = b
  keep h gs hd := by
    obtain ⟨⟨D, ⟨es, clock, hb, r⟩, h1⟩, h5⟩ := h
    exact ⟨⟨D, ⟨es, clock, (gs.block _ (lt_of_block hb) (hd _ ((h5 _).2 rfl))).trans hb, r⟩, h1⟩, h5⟩
  lt h k hk := by
    obtain ⟨⟨D, hm, h1⟩, h5⟩ := h
    rw [(h5 k).1 hk]
    exact hm.lt
theorem tight {w : World} {b n : Nat} {D : DataW Value} (h : w.ownsMap Try.prog 33 rawV b n D) {s : List KV} (hr : Reads D s) : w.ownsMap Try.prog 33 rawV b s.length D := by
  obtain ⟨es, clock, hb, F, _, rfl⟩ := h
  refine ⟨es, clock, hb, F, ?_, rfl⟩
  rw [← hr.size]
  simp [Maps.size, length_sorted]
theorem Reads.perm {D : DataW Value} {s t : List KV} (h : Reads D s) (p : s.Perm t) : Reads D t :=
  ⟨fun k => by rw [h.has]; exact ⟨fun ⟨e, he, hk⟩ => ⟨e, p.mem_iff.1 he, hk⟩, fun ⟨e, he, hk⟩ => ⟨e, p.mem_iff.2 he, hk⟩⟩, fun e he => h.at_ e (p.mem_iff.2 he), by rw [h.size, p.length_eq]⟩
theorem reads_nil : Reads (.map []) [] := ⟨fun k => by simp [Maps.has], fun e he => (by cases he), rfl⟩
section
variable {B : Nat} {w0 w : World} {Ps : List Asn} {b : Nat} {s t : List KV}
theorem aof_permH {S : Nat → Prop} (h : (AOf b s).holds S w) (p : s.Perm t) : (AOf b t).holds S w := by
  obtain ⟨⟨D, hm, hr⟩, h5⟩ := h
  exact ⟨⟨D, tight hm (hr.perm p), hr.perm p⟩, h5⟩
theorem mapMakeN (H : Own.St B w0 w Ps) : ∃ w' b, (Instr.makeMap 44 none).run Try.prog w = .ok (.map (some b)) w' ∧ Own.St B w0 w' (AOf b [] :: Ps) :=
  ⟨_, w.heap.size, run_makeMap 44 w, H.new (S' := fun k => k = w.heap.size) (AOf _ []) ⟨⟨.map [], World.ownsMap_made w _ _ _, reads_nil⟩, fun k => Iff.rfl⟩ (((Step.refl (fun _ => False) w).alloc (.map #[] 0)).to (fun k hk => .inr (Nat.le_of_eq hk.symm)))⟩
/-- a look-up: what stands there -/
theorem mapLookN (H : Own.St B w0 w Ps) (i : Nat) (hi : Ps[i]? = some (AOf b s)) {a : Nat} (ha : a < 4294967296) {v : Value} (hv : (a, v) ∈ s) :
    (Instr.lookup 44 (.map (some b)) (.int .u32 (a : Int)) false).run Try.prog w = .ok v w := by
  obtain ⟨S, ⟨⟨D, hm, hr⟩, _⟩, _⟩ := H.at i hi
  obtain ⟨v', ps, hrun, hv'⟩ := hm.lookup u32Keyed mapT (zeroN w) (zd := .held nilP) (zp := []) rfl (key_of ha)
  rw [hr.at_ _ hv] at hv'
  simp only [rawV, Option.some.injEq, Prod.mk.injEq, DataW.held.injEq] at hv'
  rw [hrun, hv'.1]
/-- .. nothing -/
theorem mapLook0N (H : Own.St B w0 w Ps) (i : Nat) (hi : Ps[i]? = some (AOf b s)) {a : Nat} (ha : a < 4294967296) (hn : ∀ e ∈ s, e.1 ≠ a) :
    (Instr.lookup 44 (.map (some b)) (.int .u32 (a : Int)) false).run Try.prog w = .ok nilP w := by
  obtain ⟨S, ⟨⟨D, hm, hr⟩, _⟩, _⟩ := H.at i hi
  obtain ⟨v', ps, hrun, hv'⟩ := hm.lookup u32Keyed mapT (zeroN w) (zd := .held nilP) (zp := []) rfl (key_of ha)
  have hh : Maps.has D (kl a) = false := by
    cases h : Maps.has D (kl a)
    · rfl
    · obtain ⟨e, he, hk⟩ := (hr.has _).1 h
      exact absurd (kl_inj hk) (hn e he)
  rw [atKey_of_not_has hh] at hv'
  simp only [rawV, Option.some.injEq, Prod.mk.injEq, DataW.held.injEq] at hv'
  rw [hrun, hv'.1]
/-- a value is put: at an address that is not there, or in the first one's place -/
theorem mapPutN (H : Own.St B w0 w Ps) (i : Nat) {a : Nat} {v : Value} {pres : Bool} (hi : Ps[i]? = some (AOf b (if pres then (a, v) :: s else s))) (ha : a < 4294967296) (hn : ∀ e ∈ s, e.1 ≠ a) (hl : s.length ≤ 1000000) (v' : Value) :
    ∃ w', (Instr.mapUpdate 44 (.map (some b)) (.int .u32 (a : Int)) v').run Try.prog w = .ok () w' ∧ Own.St B w0 w' (Ps.set i (AOf b ((a, v') :: s))) := by
  obtain ⟨S, ⟨⟨D, hm, hr⟩, h5⟩, _, put⟩ := H.at i hi
  obtain ⟨w2, hrun2, hm2, g2⟩ := hm.update u32Keyed mapT (by unfold maxLen; split <;> simp <;> omega) (key_of ha) (val := v') (d := .held v') (ps := []) rfl
  have ht := hm.tidy u32Keyed
  have hD := ht.isMap
  have hkey : WideAt.IsKeyLit (kl a) := u32Keyed.key (key_of ha)
  have hmem : ∀ e : KV, e.1 ≠ a → (e ∈ (if pres then (a, v) :: s else s) ↔ e ∈ s) := by
    intro e he
    cases pres
    · exact Iff.rfl
    · simp only [if_true, List.mem_cons]
      exact ⟨fun h => h.elim (fun h => absurd (by rw [h]) he) id, .inr⟩
  have hr2 : Reads (D.put (kl a) (.held v')) ((a, v') :: s) := by
    refine ⟨fun k => ?_, fun e he zd => ?_, ?_⟩
    · by_cases hk : k = kl a
      · rw [hk, has_put_same hD hkey]
        exact ⟨fun _ => ⟨(a, v'), List.mem_cons_self .., rfl⟩, fun _ => rfl⟩
      · rw [has_put_other hk, hr.has]
        constructor
        · rintro ⟨e, he, e2⟩
          exact ⟨e, List.mem_cons_of_mem _ ((hmem e (fun h => hk (by rw [← e2, h]))).1 he), e2⟩
        · rintro ⟨e, he, e2⟩
          rcases List.mem_cons.1 he with h | h
          · rw [h] at e2; exact absurd e2.symm hk
          · exact ⟨e, (hmem e (hn e h)).2 h, e2⟩
    · rcases List.mem_cons.1 he with h | h
      · rw [h]; exact atKey_put_same hD hkey _ _
      · have hne : kl e.1 ≠ kl a := fun h2 => hn e h (kl_inj h2)
        rw [atKey_put_other hne]
        exact hr.at_ e ((hmem e (hn e h)).2 h) zd
    · rw [size_put ht, hr.size]
      cases pres
      · have hh : Maps.has D (kl a) = false := by
          cases h : Maps.has D (kl a)
          · rfl
          · obtain ⟨e, he, hk⟩ := (hr.has _).1 h
            exact absurd (kl_inj hk) (hn e (by simpa using he))
        rw [hh]
        simp
      · have hh : Maps.has D (kl a) = true := (hr.has _).2 ⟨(a, v), by simp, rfl⟩
        rw [hh]
        simp
  refine ⟨w2, hrun2, put (fun k => k = b) w2 (AOf b ((a, v') :: s)) ⟨⟨_, tight hm2 hr2, hr2⟩, fun k => Iff.rfl⟩ ?_⟩
  exact ⟨g2.os, g2.tape, g2.output, g2.size, fun k hk hn => g2.block k hk (fun e => hn ((h5 k).2 (by cases e; rfl))), fun k hk => .inl ((h5 k).2 hk)⟩
/-- the first one is deleted -/
theorem mapDelN (H : Own.St B w0 w Ps) (i : Nat) {a : Nat} {v : Value} (hi : Ps[i]? = some (AOf b ((a, v) :: s))) (ha : a < 4294967296) (hn : ∀ e ∈ s, e.1 ≠ a) (ty : TypeId) :
    ∃ w', (Builtin.delete_ #[44, 33] ty #[.map (some b), .int .u32 (a : Int)]).run Try.prog w = .ok (.tuple #[]) w' ∧ Own.St B w0 w' (Ps.set i (AOf b s)) := by
  obtain ⟨S, ⟨⟨D, hm, hr⟩, h5⟩, _, put⟩ := H.at i hi
  obtain ⟨w2, hrun2, hm2, turn⟩ := hm.drop u32Keyed mapT (key_of ha) ty
  have g2 := turn.grown
  have ht := hm.tidy u32Keyed
  have hr2 : Reads (D.del (kl a)) s := by
    refine ⟨fun k => ?_, fun e he zd => ?_, ?_⟩
    · by_cases hk : k = kl a
      · rw [hk, has_del_same]
        refine ⟨fun h => (by cases h), ?_⟩
        rintro ⟨e, he, e2⟩
        exact absurd (kl_inj e2) (hn e he)
      · rw [has_del_other hk, hr.has]
        constructor
        · rintro ⟨e, he, e2⟩
          rcases List.mem_cons.1 he with h | h
          · rw [h] at e2; exact absurd e2.symm hk
          · exact ⟨e, h, e2⟩
        · rintro ⟨e, he, e2⟩
          exact ⟨e, List.mem_cons_of_mem _ he, e2⟩
    · have hne : kl e.1 ≠ kl a := fun h2 => hn e he (kl_inj h2)
      rw [atKey_del_other hne]
      exact hr.at_ e (List.mem_cons_of_mem _ he) zd
    · have h := size_del (k := kl a) ht
      have hh : Maps.has D (kl a) = true := (hr.has _).2 ⟨(a, v), by simp, rfl⟩
      rw [hh, hr.size] at h
      simp at h
      omega
  refine ⟨w2, hrun2, put (fun k => k = b) w2 (AOf b s) ⟨⟨_, tight hm2 hr2, hr2⟩, fun k => Iff.rfl⟩ ?_⟩
  exact ⟨g2.os, g2.tape, g2.output, g2.size, fun k hk hn => g2.block k hk (fun e => hn ((h5 k).2 (by cases e; rfl))), fun k hk => .inl ((h5 k).2 hk)⟩
end
theorem mapLenN {B : Nat} {w0 w : World} {Ps : List Asn} {b : Nat} {s : List KV} (H : Own.St B w0 w Ps) (i : Nat) (hi : Ps[i]? = some (AOf b s)) (ty : TypeId) :
    (Builtin.len_ #[44] ty #[.map (some b)]).run Try.prog w = .ok (.int .i64 (s.length : Int)) w := by
  obtain ⟨S, ⟨⟨D, hm, hr⟩, _⟩, _⟩ := H.at i hi
  rw [hm.len mapT ty, hr.size]
/-! ### the chain -/
/-- an address and its node's block -/
abbrev Nd := Nat × Nat
def kv (e : Nd) : KV := (e.1, ptr e.2)
/-- the first node; od: what stands behind them -/
def hdV : List Nd → Value → Value
  | [], od => od
  | e :: _, _ => ptr e.2
/-- the last node; nw: what stands ahead of them -/
def laV : Value → List Nd → Value
  | nw, [] => nw
  | _, e :: es => laV (ptr e.2) es
def nodeA (e : Nd) (od nw : Value) : Asn := AVals e.2 51 [aV e.1, od, nw]
def seg : Value → List Nd → Value → List Asn
  | _, [], _ => []
  | nw, e :: es, od => nodeA e (hdV es od) nw :: seg (ptr e.2) es od
theorem hd_app (od : Value) : ∀ es fs, hdV (es ++ fs) od = hdV es (hdV fs od)
  | [], _ => rfl
  | _ :: _, _ => rfl
theorem la_app : ∀ (nw : Value) (es fs : List Nd), laV nw (es ++ fs) = laV (laV nw es) fs
  | _, [], _ => rfl
  | _, e :: es, fs => la_app (ptr e.2) es fs
theorem seg_app (od : Value) : ∀ (nw : Value) (es fs : List Nd), seg nw (es ++ fs) od = seg nw es (hdV fs od) ++ seg (laV nw es) fs od
  | _, [], _ => rfl
  | nw, e :: es, fs => by
    show nodeA e (hdV (es ++ fs) od) nw :: seg (ptr e.2) (es ++ fs) od = nodeA e (hdV es (hdV fs od)) nw :: (seg (ptr e.2) es (hdV fs od) ++ seg (laV (ptr e.2) es) fs od)
    rw [hd_app, seg_app od (ptr e.2) es fs]
theorem seg_snoc (nw : Value) (es : List Nd) (e : Nd) (od : Value) : seg nw (es ++ [e]) od = seg nw es (ptr e.2) ++ [nodeA e od (laV nw es)] := seg_app od nw es [e]
theorem la_snoc (nw : Value) (es : List Nd) (e : Nd) : laV nw (es ++ [e]) = ptr e.2 := la_app nw es [e]
abbrev lC (room : Nat) (v1 v2 : Value) (m : Nat) : List Value := [.int .i64 (room : Int), v1, v2, .map (some m)]
/-- the landed list at p: its nodes es, the latest one first -/
def partsL (p m room : Nat) (es : List Nd) : List Asn := AVals p 47 (lC room (hdV es nilP) (laV nilP es) m) :: AOf m (es.map kv) :: seg nilP es nilP
def AEs (p m room : Nat) (es : List Nd) : Asn := AJoin (partsL p m room es)
/-- the landed list at p -/
def A (p : Nat) (g : G) : Asn := AEx (α := { x : Nat × List Nd // x.2.map (·.1) = g.L }) fun x => AEs p x.1.1 g.room x.1.2
section
variable {B : Nat} {w0 w : World} {Ps : List Asn} {p m room : Nat} {g : G} {es : List Nd}
theorem A_open (H : Own.St B w0 w (A p g :: Ps)) : ∃ m es, es.map (·.1) = g.L ∧ Own.St B w0 w (AEs p m g.room es :: Ps) := by
  obtain ⟨x, h⟩ := H.openE
  exact ⟨x.1.1, x.1.2, x.2, h⟩
theorem A_close (he : es.map (·.1) = g.L) (hr : room = g.room) (H : Own.St B w0 w (AEs p m room es :: Ps)) : Own.St B w0 w (A p g :: Ps) := by
  subst hr
  exact Own.St.closeE (α := { x : Nat × List Nd // x.2.map (·.1) = g.L }) (P := fun x => AEs p x.1.1 g.room x.1.2) ⟨(m, es), he⟩ H
theorem es_open (H : Own.St B w0 w (AEs p m room es :: Ps)) : Own.St B w0 w (AVals p 47 (lC room (hdV es nilP) (laV nilP es) m) :: AOf m (es.map kv) :: (seg nilP es nilP ++ Ps)) := H.openJ
theorem es_close (H : Own.St B w0 w (AVals p 47 (lC room (hdV es nilP) (laV nilP es) m) :: AOf m (es.map kv) :: (seg nilP es nilP ++ Ps))) : Own.St B w0 w (AEs p m room es :: Ps) := Own.St.closeJ (Qs := partsL p m room es) H
end
end Gha
end Go.Proofs.Ytlnhkiamhmjckaa

end
section
namespace Go.Own
open Go.RowKit
section
variable {P : Program} {ops : Array Oper} {E : List Nat} {C : Nat → World → Prop} {Q : Act → World → Prop} {ds : List Deferred} {k : Nat} {o : Oper} {rest : List Oper} {fs : List Value}
/-- the m-th of the chain waits for operation k -/
def aheadB (ops : Array Oper) (E : List Nat) (k m : Nat) : Bool := decide (m < E.length) && waitsGB ops 30 (E.getD m 0) k
theorem chain_most (hch : chainB ops E = true) {L : Nat → Bool} {m k : Nat} {o : Oper} (hb : aheadB ops E k m = true) (hc : Comes ops .any k o L) : (E.filter L).length ≤ m := by
  unfold aheadB at hb
  simp only [Bool.and_eq_true, decide_eq_true_eq] at hb
  obtain ⟨hm, hb⟩ := hb
  have hno : ∀ i, m ≤ i → i < E.length → L (E.getD i 0) = false := by
    intro i hi hil
    by_cases h : L (E.getD i 0) = true
    · have h2 := chain_down hch hc.closed m (i - m) (by omega) (by rw [show m + (i - m) = i by omega]; exact h)
      have h3 := waitsGB_sound hc.closed 30 _ _ hb h2
      rw [hc.not] at h3
      cases h3
    · simpa using h
  have e2 : E.filter L = (E.take m).filter L ++ (E.drop m).filter L := by
    conv => lhs; rw [← List.take_append_drop m E]
    rw [List.filter_append]
  have e1 : (E.drop m).filter L = [] := by
    apply List.filter_eq_nil_iff.2
    intro x hx
    obtain ⟨i, hi, rfl⟩ := List.mem_iff_getElem.1 hx
    rw [List.length_drop] at hi
    have := hno (m + i) (by omega) (by omega)
    rw [List.getD_eq_getElem?_getD, List.getElem?_eq_getElem (by omega)] at this
    rw [List.getElem_drop]
    simpa using this
  rw [e2, e1, List.append_nil]
  exact Nat.le_trans (List.length_filter_le _ _) (by rw [List.length_take]; omega)
/-- a read ahead of the m-th of the chain -/
theorem wpG_runU (m : Nat) (v : Value) (hch : chainB ops E = true) (hb : aheadB ops E k m = true) (hE : E.contains k = false) (hs : notSelect o = true) (hw : wantedL ops fs o = true) (hrun : ∀ j w, j ≤ m → C j w → (execOp (ev fs) o).run P w = .ok (.value v) w) (c : wpG P ops C E Q ds (k + 1) rest (setL fs o.dst v)) : wpG P ops C E Q ds k (o :: rest) fs :=
  ⟨_, .val v (wantedL_eq.trans hw) (fun L a1 w hC hcm ht K Q' hK => by
    have e : execOp a1.eval o = execOp (mkA fs ds).eval o := execOp_congr o (fun cs b h => by simp [notSelect, h] at hs) fun x hx => eval_looks ht x hx
    unfold Oper.wp
    rw [e, mkA_evalF, hrun _ w (chain_most hch hb hcm) hC]
    exact hK _ (by unfold CLp at *; rw [filter_upd_not hE]; exact hC)), by rw [mkA_put]; exact c⟩
theorem wpG_runU1 {x : Operand} (m : Nat) (vx v : Value) (hch : chainB ops E = true) (hb : aheadB ops E k m = true) (hE : E.contains k = false) (hx : ev fs x = vx) (hs : notSelect o = true) (hw : wantedL ops fs o = true) (hrun : ∀ j w (ρ : Operand → Value), j ≤ m → C j w → ρ x = vx → (∀ c, ρ (.const c) = c) → (execOp ρ o).run P w = .ok (.value v) w) (c : wpG P ops C E Q ds (k + 1) rest (setL fs o.dst v)) : wpG P ops C E Q ds k (o :: rest) fs :=
  wpG_runU m v hch hb hE hs hw (fun j w hj hC => hrun j w _ hj hC hx fun _ => rfl) c
/-- what an operation leaves in its slot -/
def leaves (v : Value) (n : Next) : Prop := n = .value v ∨ (n = .skip ∧ v = undef)
/-- operation number j of the chain -/
theorem wpG_op (j : Nat) (v : Value) (n : Next) (hn : leaves v n) (hch : chainB ops E = true) (hk : ops[k]? = some o) (hj : E[j]? = some k) (hs : notSelect o = true) (hw : wantedL ops fs o = true)
    (hrun : ∀ w, C j w → ∃ w', (execOp (ev fs) o).run P w = .ok n w' ∧ C (j + 1) w') (c : wpG P ops C E Q ds (k + 1) rest (setL fs o.dst v)) : wpG P ops C E Q ds k (o :: rest) fs :=
  ⟨_, .val v (wantedL_eq.trans hw) (fun L a1 w hC hcm ht K Q' hK => by
    have e : execOp a1.eval o = execOp (mkA fs ds).eval o := execOp_congr o (fun cs b h => by simp [notSelect, h] at hs) fun x hx => eval_looks ht x hx
    obtain ⟨p1, p2⟩ := chain_phase hch hj hk hcm
    unfold CLp at hC
    rw [p1] at hC
    obtain ⟨w', hr, hC'⟩ := hrun w hC
    unfold Oper.wp
    rw [e, mkA_evalF, hr]
    have hfin := hK w' (by unfold CLp; rw [p2]; exact hC')
    rcases hn with rfl | ⟨rfl, rfl⟩
    · exact hfin
    · exact hfin), by rw [mkA_put]; exact c⟩
end
end Go.Own

end
section
namespace Go.Proofs.Ytlnhkiamhmjckaa
open Go.RowKit Go.Own Go.Maps
namespace Gha
open Go.GhoM Byt Gho
theorem fldL {o : Oper} {X : Operand} {k : Nat} (ho : o.op = .fieldAddr 47 X k) (hk : k < 4) {p : Nat} (ρ : Operand → Value) (w : World) (h0 : ρ X = ptr p) : (execOp ρ o).run Try.prog w = .ok (.value (.pointer (some ⟨p, k, none⟩))) w := by
  match k, hk with
  | 0, _ => simp [execOp, ho, h0, go_sem, add_of]
  | 1, _ => simp [execOp, ho, h0, go_sem, add_of]
  | 2, _ => simp [execOp, ho, h0, go_sem, add_of]
  | 3, _ => simp [execOp, ho, h0, go_sem, add_of]
theorem fldN {o : Oper} {X : Operand} {k : Nat} (ho : o.op = .fieldAddr 51 X k) (hk : k < 3) {p : Nat} (ρ : Operand → Value) (w : World) (h0 : ρ X = ptr p) : (execOp ρ o).run Try.prog w = .ok (.value (.pointer (some ⟨p, k, none⟩))) w := by
  match k, hk with
  | 0, _ => simp [execOp, ho, h0, go_sem, add_of]
  | 1, _ => simp [execOp, ho, h0, go_sem, add_of]
  | 2, _ => simp [execOp, ho, h0, go_sem, add_of]
theorem nilC {o : Oper} {X : Operand} (ho : o.op = .nilCheck X) {p : Nat} (ρ : Operand → Value) (w : World) (h0 : ρ X = ptr p) : (execOp ρ o).run Try.prog w = .ok (.value (ptr p)) w := by
  simp [execOp, ho, h0, go_sem]
theorem del_E {P : Program} {o : Oper} {x y : Tmp} {t1 t2 : TypeId} (ho : o.op = .call { callee := .builtin .delete, args := #[.tmp x, .tmp y], argTypes := #[t1, t2] }) {ρ : Operand → Value} {w w' : World} {m k : Value} (h0 : ρ (.tmp x) = m) (h1 : ρ (.tmp y) = k) (hrun : (Builtin.delete_ #[t1, t2] o.type #[m, k]).run P w = .ok (.tuple #[]) w') : (execOp ρ o).run P w = .ok (.value (.tuple #[])) w' := by
  unfold execOp
  simp [ho, h0, h1, resolve, invoke, builtin, hrun, Result.andThen]
theorem sto_E {P : Program} {o : Oper} {x y : Tmp} {t : TypeId} (ho : o.op = .store t (.tmp x) (.tmp y)) {ρ : Operand → Value} {w w' : World} {a v : Value} (h0 : ρ (.tmp x) = a) (h1 : ρ (.tmp y) = v) (hrun : (Instr.storeAt t a v).run P w = .ok () w') : (execOp ρ o).run P w = .ok .skip w' := by
  unfold execOp
  simp [ho, h0, h1, hrun, Result.andThen]
section
variable {B : Nat} {w0 w : World} {Ps : List Asn} {p m room a b : Nat} {s : List KV}
set_option maxHeartbeats 3200000 in
theorem rem_one (ha : a < 4294967296) (hs : ∀ e ∈ s, e.1 ≠ a)
    (H : Own.St B w0 w (AVals p 47 (lC room (ptr b) (ptr b) m) :: AOf m ((a, ptr b) :: s) :: AVals b 51 [aV a, nilP, nilP] :: (Ps))) :
    Calls Try.prog 17 #[ptr p, ptr b] w fun e w' => e = .returned (.tuple #[]) ∧ Own.St B w0 w' (AVals p 47 (lC room nilP nilP m) :: AOf m s :: Ps) := by
  have c0 := (H.cellV 2 rfl 2 rfl).1
  have c1 := (H.cellV 2 rfl 1 rfl).1
  obtain ⟨c2, c2z⟩ := H.cellV 0 rfl 1 rfl
  have h1 := H.storeV 0 rfl 1 (nilP)
  simp only [List.set_cons_zero, List.set_cons_succ] at h1
  obtain ⟨W1, hW1⟩ : ∃ W, W = w.setCell ⟨p, 1, none⟩ (nilP) := ⟨_, rfl⟩
  rw [← hW1] at h1
  have E1 := hW1.symm
  have c3 := (h1.cellV 2 rfl 1 rfl).1
  have c4 := (h1.cellV 2 rfl 2 rfl).1
  obtain ⟨c5, c5z⟩ := h1.cellV 0 rfl 2 rfl
  have h2 := h1.storeV 0 rfl 2 (nilP)
  simp only [List.set_cons_zero, List.set_cons_succ] at h2
  obtain ⟨W2, hW2⟩ : ∃ W, W = W1.setCell ⟨p, 2, none⟩ (nilP) := ⟨_, rfl⟩
  rw [← hW2] at h2
  have E2 := hW2.symm
  have K2 := Lib.hid h2
  clear H h1 h2 hW1 hW2
  go_enter Try.func17, Try.ntmps17
  go_wp2_with (fail)
  clear c0 c1 c2 c2z c3 c4 c5 c5z E1 E2
  have g2 := K2.out.drew
  have D1 := Lib.hid (g2.cellV 0 rfl 3 rfl).1
  have D2 := Lib.hid (g2.cellV 2 rfl 0 rfl).1
  obtain ⟨wz, ez, kz⟩ := mapDelN g2 1 (v := ptr b) (s := s) rfl ha hs 0
  simp only [List.set_cons_zero, List.set_cons_succ] at kz
  have EZ := Lib.hid ez
  have KZ := Lib.hid kz
  clear g2 ez kz K2 hs
  refine wp_chain_list [8] (fun j wx => wx = match j with | 0 => W2.drew | _ => wz) (by kernel_rfl) (by kernel_rfl) (by kernel_rfl) (by kernel_rfl) rfl ?_
  refine wpG_move (ptr p) rfl (by kernel_rfl) (by kernel_rfl) (by kernel_rfl) ?_
  refine wpG_run1 (x := .tmp 48) (ptr p) (ptr p) (by kernel_rfl) (by kernel_rfl) (by kernel_rfl) (by kernel_rfl) (fun j wx ρ hC h0 hc => nilC rfl ρ wx h0) ?_
  refine wpG_run1 (x := .tmp 49) (ptr p) (.pointer (some ⟨p, 3, none⟩)) (by kernel_rfl) (by kernel_rfl) (by kernel_rfl) (by kernel_rfl) (fun j wx ρ hC h0 hc => fldL rfl (by decide) ρ wx h0) ?_
  refine wpG_runU1 (x := .tmp 50) 0 (.pointer (some ⟨p, 3, none⟩)) (.map (some m)) (by kernel_rfl) (by kernel_rfl) (by kernel_rfl) (by kernel_rfl) (by kernel_rfl) (by kernel_rfl) (fun j wx ρ hj hC h0 hc => ?_) ?_
  · obtain rfl : j = 0 := by omega
    subst hC
    simp [go_sem, h0, D1.out]
  refine wpG_move (ptr b) rfl (by kernel_rfl) (by kernel_rfl) (by kernel_rfl) ?_
  refine wpG_run1 (x := .tmp 52) (ptr b) (ptr b) (by kernel_rfl) (by kernel_rfl) (by kernel_rfl) (by kernel_rfl) (fun j wx ρ hC h0 hc => nilC rfl ρ wx h0) ?_
  refine wpG_run1 (x := .tmp 53) (ptr b) (.pointer (some ⟨b, 0, none⟩)) (by kernel_rfl) (by kernel_rfl) (by kernel_rfl) (by kernel_rfl) (fun j wx ρ hC h0 hc => fldN rfl (by decide) ρ wx h0) ?_
  refine wpG_runU1 (x := .tmp 54) 0 (.pointer (some ⟨b, 0, none⟩)) (.int .u32 (a : Int)) (by kernel_rfl) (by kernel_rfl) (by kernel_rfl) (by kernel_rfl) (by kernel_rfl) (by kernel_rfl) (fun j wx ρ hj hC h0 hc => ?_) ?_
  · obtain rfl : j = 0 := by omega
    subst hC
    simp [go_sem, h0, D2.out]
  refine wpG_op 0 (.tuple #[]) _ (.inl rfl) (by kernel_rfl) (by kernel_rfl) (by kernel_rfl) (by kernel_rfl) (by kernel_rfl) (fun wx hC => ⟨wz, by subst hC; exact del_E (m := .map (some m)) (k := .int .u32 (a : Int)) rfl (by kernel_rfl) (by kernel_rfl) EZ.out, rfl⟩) ?_
  refine wpG_end (fun w3 hw3 => ?_)
  obtain rfl : w3 = wz := hw3
  simp only [setL, List.set_cons_zero, List.set_cons_succ]
  go_wp2
  go_end0
  refine ⟨rfl, ?_⟩
  have h := (KZ.out.perm (List.perm_middle (l₁ := [_, _]))).drop 1
  simp only [List.drop_succ_cons, List.drop_zero] at h
  exact h
set_option maxHeartbeats 3200000 in
theorem rem_first (v2 : Value) (f : Nat) (x y : Value) (ha : a < 4294967296) (hs : ∀ e ∈ s, e.1 ≠ a)
    (H : Own.St B w0 w (AVals p 47 (lC room (ptr b) v2 m) :: AOf m ((a, ptr b) :: s) :: AVals b 51 [aV a, ptr f, nilP] :: AVals f 51 [x, y, ptr b] :: (Ps))) :
    Calls Try.prog 17 #[ptr p, ptr b] w fun e w' => e = .returned (.tuple #[]) ∧ Own.St B w0 w' (AVals p 47 (lC room (ptr f) v2 m) :: AOf m s :: AVals f 51 [x, y, nilP] :: Ps) := by
  have c0 := (H.cellV 2 rfl 2 rfl).1
  have c1 := (H.cellV 2 rfl 1 rfl).1
  obtain ⟨c2, c2z⟩ := H.cellV 0 rfl 1 rfl
  have h1 := H.storeV 0 rfl 1 (ptr f)
  simp only [List.set_cons_zero, List.set_cons_succ] at h1
  obtain ⟨W1, hW1⟩ : ∃ W, W = w.setCell ⟨p, 1, none⟩ (ptr f) := ⟨_, rfl⟩
  rw [← hW1] at h1
  have E1 := hW1.symm
  have c3 := (h1.cellV 2 rfl 1 rfl).1
  have K1 := Lib.hid h1
  clear H h1 hW1
  go_enter Try.func17, Try.ntmps17
  go_wp2_with (fail)
  clear c0 c1 c2 c2z c3 E1
  have g1 := K1.out.drew
  have D1 := Lib.hid (g1.cellV 2 rfl 1 rfl).1
  have D2 := Lib.hid (g1.cellV 2 rfl 2 rfl).1
  have D3 := Lib.hid (g1.cellV 3 rfl 2 rfl)
  have h2 := g1.storeV 3 rfl 2 (nilP)
  simp only [List.set_cons_zero, List.set_cons_succ] at h2
  obtain ⟨W2, hW2⟩ : ∃ W, W = W1.drew.setCell ⟨f, 2, none⟩ (nilP) := ⟨_, rfl⟩
  rw [← hW2] at h2
  have E2 := Lib.hid hW2
  have K2 := Lib.hid h2
  clear K1 g1 h2 hW2
  refine wp_chain_list [10] (fun j wx => wx = match j with | 0 => W1.drew | _ => W2) (by kernel_rfl) (by kernel_rfl) (by kernel_rfl) (by kernel_rfl) rfl ?_
  refine wpG_move (ptr b) rfl (by kernel_rfl) (by kernel_rfl) (by kernel_rfl) ?_
  refine wpG_run1 (x := .tmp 38) (ptr b) (ptr b) (by kernel_rfl) (by kernel_rfl) (by kernel_rfl) (by kernel_rfl) (fun j wx ρ hC h0 hc => nilC rfl ρ wx h0) ?_
  refine wpG_run1 (x := .tmp 39) (ptr b) (.pointer (some ⟨b, 1, none⟩)) (by kernel_rfl) (by kernel_rfl) (by kernel_rfl) (by kernel_rfl) (fun j wx ρ hC h0 hc => fldN rfl (by decide) ρ wx h0) ?_
  refine wpG_runU1 (x := .tmp 40) 0 (.pointer (some ⟨b, 1, none⟩)) (ptr f) (by kernel_rfl) (by kernel_rfl) (by kernel_rfl) (by kernel_rfl) (by kernel_rfl) (by kernel_rfl) (fun j wx ρ hj hC h0 hc => ?_) ?_
  · obtain rfl : j = 0 := by omega
    subst hC
    simp [go_sem, h0, D1.out]
  refine wpG_move (ptr b) rfl (by kernel_rfl) (by kernel_rfl) (by kernel_rfl) ?_
  refine wpG_run1 (x := .tmp 42) (ptr b) (ptr b) (by kernel_rfl) (by kernel_rfl) (by kernel_rfl) (by kernel_rfl) (fun j wx ρ hC h0 hc => nilC rfl ρ wx h0) ?_
  refine wpG_run1 (x := .tmp 43) (ptr b) (.pointer (some ⟨b, 2, none⟩)) (by kernel_rfl) (by kernel_rfl) (by kernel_rfl) (by kernel_rfl) (fun j wx ρ hC h0 hc => fldN rfl (by decide) ρ wx h0) ?_
  refine wpG_runU1 (x := .tmp 44) 0 (.pointer (some ⟨b, 2, none⟩)) (nilP) (by kernel_rfl) (by kernel_rfl) (by kernel_rfl) (by kernel_rfl) (by kernel_rfl) (by kernel_rfl) (fun j wx ρ hj hC h0 hc => ?_) ?_
  · obtain rfl : j = 0 := by omega
    subst hC
    simp [go_sem, h0, D2.out]
  refine wpG_run1 (x := .tmp 41) (ptr f) (ptr f) (by kernel_rfl) (by kernel_rfl) (by kernel_rfl) (by kernel_rfl) (fun j wx ρ hC h0 hc => nilC rfl ρ wx h0) ?_
  refine wpG_run1 (x := .tmp 46) (ptr f) (.pointer (some ⟨f, 2, none⟩)) (by kernel_rfl) (by kernel_rfl) (by kernel_rfl) (by kernel_rfl) (fun j wx ρ hC h0 hc => fldN rfl (by decide) ρ wx h0) ?_
  refine wpG_op 0 undef _ (.inr ⟨rfl, rfl⟩) (by kernel_rfl) (by kernel_rfl) (by kernel_rfl) (by kernel_rfl) (by kernel_rfl) (fun wx hC => ⟨W2, by subst hC; exact sto_E (a := .pointer (some ⟨f, 2, none⟩)) (v := nilP) rfl (by kernel_rfl) (by kernel_rfl) (by simp [go_sem, D3.out.1, D3.out.2, E2.out]), rfl⟩) ?_
  refine wpG_end (fun w2 hw2 => ?_)
  obtain rfl : w2 = W2 := hw2
  simp only [setL, List.set_cons_zero, List.set_cons_succ]
  clear D1 D2 D3 E2
  go_wp2_with (fail)
  have g2 := K2.out.drew
  have D1 := Lib.hid (g2.cellV 0 rfl 3 rfl).1
  have D2 := Lib.hid (g2.cellV 2 rfl 0 rfl).1
  obtain ⟨wz, ez, kz⟩ := mapDelN g2 1 (v := ptr b) (s := s) rfl ha hs 0
  simp only [List.set_cons_zero, List.set_cons_succ] at kz
  have EZ := Lib.hid ez
  have KZ := Lib.hid kz
  clear g2 ez kz K2 hs
  refine wp_chain_list [8] (fun j wx => wx = match j with | 0 => w2.drew | _ => wz) (by kernel_rfl) (by kernel_rfl) (by kernel_rfl) (by kernel_rfl) rfl ?_
  refine wpG_move (ptr p) rfl (by kernel_rfl) (by kernel_rfl) (by kernel_rfl) ?_
  refine wpG_run1 (x := .tmp 48) (ptr p) (ptr p) (by kernel_rfl) (by kernel_rfl) (by kernel_rfl) (by kernel_rfl) (fun j wx ρ hC h0 hc => nilC rfl ρ wx h0) ?_
  refine wpG_run1 (x := .tmp 49) (ptr p) (.pointer (some ⟨p, 3, none⟩)) (by kernel_rfl) (by kernel_rfl) (by kernel_rfl) (by kernel_rfl) (fun j wx ρ hC h0 hc => fldL rfl (by decide) ρ wx h0) ?_
  refine wpG_runU1 (x := .tmp 50) 0 (.pointer (some ⟨p, 3, none⟩)) (.map (some m)) (by kernel_rfl) (by kernel_rfl) (by kernel_rfl) (by kernel_rfl) (by kernel_rfl) (by kernel_rfl) (fun j wx ρ hj hC h0 hc => ?_) ?_
  · obtain rfl : j = 0 := by omega
    subst hC
    simp [go_sem, h0, D1.out]
  refine wpG_move (ptr b) rfl (by kernel_rfl) (by kernel_rfl) (by kernel_rfl) ?_
  refine wpG_run1 (x := .tmp 52) (ptr b) (ptr b) (by kernel_rfl) (by kernel_rfl) (by kernel_rfl) (by kernel_rfl) (fun j wx ρ hC h0 hc => nilC rfl ρ wx h0) ?_
  refine wpG_run1 (x := .tmp 53) (ptr b) (.pointer (some ⟨b, 0, none⟩)) (by kernel_rfl) (by kernel_rfl) (by kernel_rfl) (by kernel_rfl) (fun j wx ρ hC h0 hc => fldN rfl (by decide) ρ wx h0) ?_
  refine wpG_runU1 (x := .tmp 54) 0 (.pointer (some ⟨b, 0, none⟩)) (.int .u32 (a : Int)) (by kernel_rfl) (by kernel_rfl) (by kernel_rfl) (by kernel_rfl) (by kernel_rfl) (by kernel_rfl) (fun j wx ρ hj hC h0 hc => ?_) ?_
  · obtain rfl : j = 0 := by omega
    subst hC
    simp [go_sem, h0, D2.out]
  refine wpG_op 0 (.tuple #[]) _ (.inl rfl) (by kernel_rfl) (by kernel_rfl) (by kernel_rfl) (by kernel_rfl) (by kernel_rfl) (fun wx hC => ⟨wz, by subst hC; exact del_E (m := .map (some m)) (k := .int .u32 (a : Int)) rfl (by kernel_rfl) (by kernel_rfl) EZ.out, rfl⟩) ?_
  refine wpG_end (fun w3 hw3 => ?_)
  obtain rfl : w3 = wz := hw3
  simp only [setL, List.set_cons_zero, List.set_cons_succ]
  go_wp2
  go_end0
  refine ⟨rfl, ?_⟩
  have h := (KZ.out.perm (List.perm_middle (l₁ := [_, _]))).drop 1
  simp only [List.drop_succ_cons, List.drop_zero] at h
  exact h
set_option maxHeartbeats 3200000 in
theorem rem_last (v1 : Value) (d : Nat) (x y : Value) (ha : a < 4294967296) (hs : ∀ e ∈ s, e.1 ≠ a)
    (H : Own.St B w0 w (AVals p 47 (lC room v1 (ptr b) m) :: AOf m ((a, ptr b) :: s) :: AVals b 51 [aV a, nilP, ptr d] :: AVals d 51 [x, ptr b, y] :: (Ps))) :
    Calls Try.prog 17 #[ptr p, ptr b] w fun e w' => e = .returned (.tuple #[]) ∧ Own.St B w0 w' (AVals p 47 (lC room v1 (ptr d) m) :: AOf m s :: AVals d 51 [x, nilP, y] :: Ps) := by
  have c0 := (H.cellV 2 rfl 2 rfl).1
  have K0 := Lib.hid H
  clear H
  go_enter Try.func17, Try.ntmps17
  go_wp2_with (fail)
  clear c0
  have g0 := K0.out.drew
  have D1 := Lib.hid (g0.cellV 2 rfl 2 rfl).1
  have D2 := Lib.hid (g0.cellV 2 rfl 1 rfl).1
  have D3 := Lib.hid (g0.cellV 3 rfl 1 rfl)
  have h1 := g0.storeV 3 rfl 1 (nilP)
  simp only [List.set_cons_zero, List.set_cons_succ] at h1
  obtain ⟨W1, hW1⟩ : ∃ W, W = w.drew.setCell ⟨d, 1, none⟩ (nilP) := ⟨_, rfl⟩
  rw [← hW1] at h1
  have E1 := Lib.hid hW1
  have K1 := Lib.hid h1
  clear K0 g0 h1 hW1
  refine wp_chain_list [10] (fun j wx => wx = match j with | 0 => w.drew | _ => W1) (by kernel_rfl) (by kernel_rfl) (by kernel_rfl) (by kernel_rfl) rfl ?_
  refine wpG_move (ptr b) rfl (by kernel_rfl) (by kernel_rfl) (by kernel_rfl) ?_
  refine wpG_run1 (x := .tmp 16) (ptr b) (ptr b) (by kernel_rfl) (by kernel_rfl) (by kernel_rfl) (by kernel_rfl) (fun j wx ρ hC h0 hc => nilC rfl ρ wx h0) ?_
  refine wpG_run1 (x := .tmp 17) (ptr b) (.pointer (some ⟨b, 2, none⟩)) (by kernel_rfl) (by kernel_rfl) (by kernel_rfl) (by kernel_rfl) (fun j wx ρ hC h0 hc => fldN rfl (by decide) ρ wx h0) ?_
  refine wpG_runU1 (x := .tmp 18) 0 (.pointer (some ⟨b, 2, none⟩)) (ptr d) (by kernel_rfl) (by kernel_rfl) (by kernel_rfl) (by kernel_rfl) (by kernel_rfl) (by kernel_rfl) (fun j wx ρ hj hC h0 hc => ?_) ?_
  · obtain rfl : j = 0 := by omega
    subst hC
    simp [go_sem, h0, D1.out]
  refine wpG_move (ptr b) rfl (by kernel_rfl) (by kernel_rfl) (by kernel_rfl) ?_
  refine wpG_run1 (x := .tmp 20) (ptr b) (ptr b) (by kernel_rfl) (by kernel_rfl) (by kernel_rfl) (by kernel_rfl) (fun j wx ρ hC h0 hc => nilC rfl ρ wx h0) ?_
  refine wpG_run1 (x := .tmp 21) (ptr b) (.pointer (some ⟨b, 1, none⟩)) (by kernel_rfl) (by kernel_rfl) (by kernel_rfl) (by kernel_rfl) (fun j wx ρ hC h0 hc => fldN rfl (by decide) ρ wx h0) ?_
  refine wpG_runU1 (x := .tmp 22) 0 (.pointer (some ⟨b, 1, none⟩)) (nilP) (by kernel_rfl) (by kernel_rfl) (by kernel_rfl) (by kernel_rfl) (by kernel_rfl) (by kernel_rfl) (fun j wx ρ hj hC h0 hc => ?_) ?_
  · obtain rfl : j = 0 := by omega
    subst hC
    simp [go_sem, h0, D2.out]
  refine wpG_run1 (x := .tmp 19) (ptr d) (ptr d) (by kernel_rfl) (by kernel_rfl) (by kernel_rfl) (by kernel_rfl) (fun j wx ρ hC h0 hc => nilC rfl ρ wx h0) ?_
  refine wpG_run1 (x := .tmp 24) (ptr d) (.pointer (some ⟨d, 1, none⟩)) (by kernel_rfl) (by kernel_rfl) (by kernel_rfl) (by kernel_rfl) (fun j wx ρ hC h0 hc => fldN rfl (by decide) ρ wx h0) ?_
  refine wpG_op 0 undef _ (.inr ⟨rfl, rfl⟩) (by kernel_rfl) (by kernel_rfl) (by kernel_rfl) (by kernel_rfl) (by kernel_rfl) (fun wx hC => ⟨W1, by subst hC; exact sto_E (a := .pointer (some ⟨d, 1, none⟩)) (v := nilP) rfl (by kernel_rfl) (by kernel_rfl) (by simp [go_sem, D3.out.1, D3.out.2, E1.out]), rfl⟩) ?_
  refine wpG_end (fun w1 hw1 => ?_)
  obtain rfl : w1 = W1 := hw1
  simp only [setL, List.set_cons_zero, List.set_cons_succ]
  clear D1 D2 D3 E1
  have c3 := (K1.out.cellV 2 rfl 1 rfl).1
  have c4 := (K1.out.cellV 2 rfl 2 rfl).1
  obtain ⟨c5, c5z⟩ := K1.out.cellV 0 rfl 2 rfl
  have h2 := K1.out.storeV 0 rfl 2 (ptr d)
  simp only [List.set_cons_zero, List.set_cons_succ] at h2
  obtain ⟨W2, hW2⟩ : ∃ W, W = w1.setCell ⟨p, 2, none⟩ (ptr d) := ⟨_, rfl⟩
  rw [← hW2] at h2
  have E2 := hW2.symm
  have K2 := Lib.hid h2
  clear K1 h2 hW2
  go_wp2_with (fail)
  clear c3 c4 c5 c5z E2
  have g2 := K2.out.drew
  have D1 := Lib.hid (g2.cellV 0 rfl 3 rfl).1
  have D2 := Lib.hid (g2.cellV 2 rfl 0 rfl).1
  obtain ⟨wz, ez, kz⟩ := mapDelN g2 1 (v := ptr b) (s := s) rfl ha hs 0
  simp only [List.set_cons_zero, List.set_cons_succ] at kz
  have EZ := Lib.hid ez
  have KZ := Lib.hid kz
  clear g2 ez kz K2 hs
  refine wp_chain_list [8] (fun j wx => wx = match j with | 0 => W2.drew | _ => wz) (by kernel_rfl) (by kernel_rfl) (by kernel_rfl) (by kernel_rfl) rfl ?_
  refine wpG_move (ptr p) rfl (by kernel_rfl) (by kernel_rfl) (by kernel_rfl) ?_
  refine wpG_run1 (x := .tmp 48) (ptr p) (ptr p) (by kernel_rfl) (by kernel_rfl) (by kernel_rfl) (by kernel_rfl) (fun j wx ρ hC h0 hc => nilC rfl ρ wx h0) ?_
  refine wpG_run1 (x := .tmp 49) (ptr p) (.pointer (some ⟨p, 3, none⟩)) (by kernel_rfl) (by kernel_rfl) (by kernel_rfl) (by kernel_rfl) (fun j wx ρ hC h0 hc => fldL rfl (by decide) ρ wx h0) ?_
  refine wpG_runU1 (x := .tmp 50) 0 (.pointer (some ⟨p, 3, none⟩)) (.map (some m)) (by kernel_rfl) (by kernel_rfl) (by kernel_rfl) (by kernel_rfl) (by kernel_rfl) (by kernel_rfl) (fun j wx ρ hj hC h0 hc => ?_) ?_
  · obtain rfl : j = 0 := by omega
    subst hC
    simp [go_sem, h0, D1.out]
  refine wpG_move (ptr b) rfl (by kernel_rfl) (by kernel_rfl) (by kernel_rfl) ?_
  refine wpG_run1 (x := .tmp 52) (ptr b) (ptr b) (by kernel_rfl) (by kernel_rfl) (by kernel_rfl) (by kernel_rfl) (fun j wx ρ hC h0 hc => nilC rfl ρ wx h0) ?_
  refine wpG_run1 (x := .tmp 53) (ptr b) (.pointer (some ⟨b, 0, none⟩)) (by kernel_rfl) (by kernel_rfl) (by kernel_rfl) (by kernel_rfl) (fun j wx ρ hC h0 hc => fldN rfl (by decide) ρ wx h0) ?_
  refine wpG_runU1 (x := .tmp 54) 0 (.pointer (some ⟨b, 0, none⟩)) (.int .u32 (a : Int)) (by kernel_rfl) (by kernel_rfl) (by kernel_rfl) (by kernel_rfl) (by kernel_rfl) (by kernel_rfl) (fun j wx ρ hj hC h0 hc => ?_) ?_
  · obtain rfl : j = 0 := by omega
    subst hC
    simp [go_sem, h0, D2.out]
  refine wpG_op 0 (.tuple #[]) _ (.inl rfl) (by kernel_rfl) (by kernel_rfl) (by kernel_rfl) (by kernel_rfl) (by kernel_rfl) (fun wx hC => ⟨wz, by subst hC; exact del_E (m := .map (some m)) (k := .int .u32 (a : Int)) rfl (by kernel_rfl) (by kernel_rfl) EZ.out, rfl⟩) ?_
  refine wpG_end (fun w3 hw3 => ?_)
  obtain rfl : w3 = wz := hw3
  simp only [setL, List.set_cons_zero, List.set_cons_succ]
  go_wp2
  go_end0
  refine ⟨rfl, ?_⟩
  have h := (KZ.out.perm (List.perm_middle (l₁ := [_, _]))).drop 1
  simp only [List.drop_succ_cons, List.drop_zero] at h
  exact h
set_option maxHeartbeats 3200000 in
theorem rem_mid (v1 v2 : Value) (d : Nat) (x y : Value) (f : Nat) (x2 y2 : Value) (ha : a < 4294967296) (hs : ∀ e ∈ s, e.1 ≠ a)
    (H : Own.St B w0 w (AVals p 47 (lC room v1 v2 m) :: AOf m ((a, ptr b) :: s) :: AVals b 51 [aV a, ptr f, ptr d] :: AVals d 51 [x, ptr b, y] :: AVals f 51 [x2, y2, ptr b] :: (Ps))) :
    Calls Try.prog 17 #[ptr p, ptr b] w fun e w' => e = .returned (.tuple #[]) ∧ Own.St B w0 w' (AVals p 47 (lC room v1 v2 m) :: AOf m s :: AVals d 51 [x, ptr f, y] :: AVals f 51 [x2, y2, ptr d] :: Ps) := by
  have c0 := (H.cellV 2 rfl 2 rfl).1
  have K0 := Lib.hid H
  clear H
  go_enter Try.func17, Try.ntmps17
  go_wp2_with (fail)
  clear c0
  have g0 := K0.out.drew
  have D1 := Lib.hid (g0.cellV 2 rfl 2 rfl).1
  have D2 := Lib.hid (g0.cellV 2 rfl 1 rfl).1
  have D3 := Lib.hid (g0.cellV 3 rfl 1 rfl)
  have h1 := g0.storeV 3 rfl 1 (ptr f)
  simp only [List.set_cons_zero, List.set_cons_succ] at h1
  obtain ⟨W1, hW1⟩ : ∃ W, W = w.drew.setCell ⟨d, 1, none⟩ (ptr f) := ⟨_, rfl⟩
  rw [← hW1] at h1
  have E1 := Lib.hid hW1
  have K1 := Lib.hid h1
  clear K0 g0 h1 hW1
  refine wp_chain_list [10] (fun j wx => wx = match j with | 0 => w.drew | _ => W1) (by kernel_rfl) (by kernel_rfl) (by kernel_rfl) (by kernel_rfl) rfl ?_
  refine wpG_move (ptr b) rfl (by kernel_rfl) (by kernel_rfl) (by kernel_rfl) ?_
  refine wpG_run1 (x := .tmp 16) (ptr b) (ptr b) (by kernel_rfl) (by kernel_rfl) (by kernel_rfl) (by kernel_rfl) (fun j wx ρ hC h0 hc => nilC rfl ρ wx h0) ?_
  refine wpG_run1 (x := .tmp 17) (ptr b) (.pointer (some ⟨b, 2, none⟩)) (by kernel_rfl) (by kernel_rfl) (by kernel_rfl) (by kernel_rfl) (fun j wx ρ hC h0 hc => fldN rfl (by decide) ρ wx h0) ?_
  refine wpG_runU1 (x := .tmp 18) 0 (.pointer (some ⟨b, 2, none⟩)) (ptr d) (by kernel_rfl) (by kernel_rfl) (by kernel_rfl) (by kernel_rfl) (by kernel_rfl) (by kernel_rfl) (fun j wx ρ hj hC h0 hc => ?_) ?_
  · obtain rfl : j = 0 := by omega
    subst hC
    simp [go_sem, h0, D1.out]
  refine wpG_move (ptr b) rfl (by kernel_rfl) (by kernel_rfl) (by kernel_rfl) ?_
  refine wpG_run1 (x := .tmp 20) (ptr b) (ptr b) (by kernel_rfl) (by kernel_rfl) (by kernel_rfl) (by kernel_rfl) (fun j wx ρ hC h0 hc => nilC rfl ρ wx h0) ?_
  refine wpG_run1 (x := .tmp 21) (ptr b) (.pointer (some ⟨b, 1, none⟩)) (by kernel_rfl) (by kernel_rfl) (by kernel_rfl) (by kernel_rfl) (fun j wx ρ hC h0 hc => fldN rfl (by decide) ρ wx h0) ?_
  refine wpG_runU1 (x := .tmp 22) 0 (.pointer (some ⟨b, 1, none⟩)) (ptr f) (by kernel_rfl) (by kernel_rfl) (by kernel_rfl) (by kernel_rfl) (by kernel_rfl) (by kernel_rfl) (fun j wx ρ hj hC h0 hc => ?_) ?_
  · obtain rfl : j = 0 := by omega
    subst hC
    simp [go_sem, h0, D2.out]
  refine wpG_run1 (x := .tmp 19) (ptr d) (ptr d) (by kernel_rfl) (by kernel_rfl) (by kernel_rfl) (by kernel_rfl) (fun j wx ρ hC h0 hc => nilC rfl ρ wx h0) ?_
  refine wpG_run1 (x := .tmp 24) (ptr d) (.pointer (some ⟨d, 1, none⟩)) (by kernel_rfl) (by kernel_rfl) (by kernel_rfl) (by kernel_rfl) (fun j wx ρ hC h0 hc => fldN rfl (by decide) ρ wx h0) ?_
  refine wpG_op 0 undef _ (.inr ⟨rfl, rfl⟩) (by kernel_rfl) (by kernel_rfl) (by kernel_rfl) (by kernel_rfl) (by kernel_rfl) (fun wx hC => ⟨W1, by subst hC; exact sto_E (a := .pointer (some ⟨d, 1, none⟩)) (v := ptr f) rfl (by kernel_rfl) (by kernel_rfl) (by simp [go_sem, D3.out.1, D3.out.2, E1.out]), rfl⟩) ?_
  refine wpG_end (fun w1 hw1 => ?_)
  obtain rfl : w1 = W1 := hw1
  simp only [setL, List.set_cons_zero, List.set_cons_succ]
  clear D1 D2 D3 E1
  have c3 := (K1.out.cellV 2 rfl 1 rfl).1
  go_wp2_with (fail)
  clear c3
  have g1 := K1.out.drew
  have D1 := Lib.hid (g1.cellV 2 rfl 1 rfl).1
  have D2 := Lib.hid (g1.cellV 2 rfl 2 rfl).1
  have D3 := Lib.hid (g1.cellV 4 rfl 2 rfl)
  have h2 := g1.storeV 4 rfl 2 (ptr d)
  simp only [List.set_cons_zero, List.set_cons_succ] at h2
  obtain ⟨W2, hW2⟩ : ∃ W, W = w1.drew.setCell ⟨f, 2, none⟩ (ptr d) := ⟨_, rfl⟩
  rw [← hW2] at h2
  have E2 := Lib.hid hW2
  have K2 := Lib.hid h2
  clear K1 g1 h2 hW2
  refine wp_chain_list [10] (fun j wx => wx = match j with | 0 => w1.drew | _ => W2) (by kernel_rfl) (by kernel_rfl) (by kernel_rfl) (by kernel_rfl) rfl ?_
  refine wpG_move (ptr b) rfl (by kernel_rfl) (by kernel_rfl) (by kernel_rfl) ?_
  refine wpG_run1 (x := .tmp 38) (ptr b) (ptr b) (by kernel_rfl) (by kernel_rfl) (by kernel_rfl) (by kernel_rfl) (fun j wx ρ hC h0 hc => nilC rfl ρ wx h0) ?_
  refine wpG_run1 (x := .tmp 39) (ptr b) (.pointer (some ⟨b, 1, none⟩)) (by kernel_rfl) (by kernel_rfl) (by kernel_rfl) (by kernel_rfl) (fun j wx ρ hC h0 hc => fldN rfl (by decide) ρ wx h0) ?_
  refine wpG_runU1 (x := .tmp 40) 0 (.pointer (some ⟨b, 1, none⟩)) (ptr f) (by kernel_rfl) (by kernel_rfl) (by kernel_rfl) (by kernel_rfl) (by kernel_rfl) (by kernel_rfl) (fun j wx ρ hj hC h0 hc => ?_) ?_
  · obtain rfl : j = 0 := by omega
    subst hC
    simp [go_sem, h0, D1.out]
  refine wpG_move (ptr b) rfl (by kernel_rfl) (by kernel_rfl) (by kernel_rfl) ?_
  refine wpG_run1 (x := .tmp 42) (ptr b) (ptr b) (by kernel_rfl) (by kernel_rfl) (by kernel_rfl) (by kernel_rfl) (fun j wx ρ hC h0 hc => nilC rfl ρ wx h0) ?_
  refine wpG_run1 (x := .tmp 43) (ptr b) (.pointer (some ⟨b, 2, none⟩)) (by kernel_rfl) (by kernel_rfl) (by kernel_rfl) (by kernel_rfl) (fun j wx ρ hC h0 hc => fldN rfl (by decide) ρ wx h0) ?_
  refine wpG_runU1 (x := .tmp 44) 0 (.pointer (some ⟨b, 2, none⟩)) (ptr d) (by kernel_rfl) (by kernel_rfl) (by kernel_rfl) (by kernel_rfl) (by kernel_rfl) (by kernel_rfl) (fun j wx ρ hj hC h0 hc => ?_) ?_
  · obtain rfl : j = 0 := by omega
    subst hC
    simp [go_sem, h0, D2.out]
  refine wpG_run1 (x := .tmp 41) (ptr f) (ptr f) (by kernel_rfl) (by kernel_rfl) (by kernel_rfl) (by kernel_rfl) (fun j wx ρ hC h0 hc => nilC rfl ρ wx h0) ?_
  refine wpG_run1 (x := .tmp 46) (ptr f) (.pointer (some ⟨f, 2, none⟩)) (by kernel_rfl) (by kernel_rfl) (by kernel_rfl) (by kernel_rfl) (fun j wx ρ hC h0 hc => fldN rfl (by decide) ρ wx h0) ?_
  refine wpG_op 0 undef _ (.inr ⟨rfl, rfl⟩) (by kernel_rfl) (by kernel_rfl) (by kernel_rfl) (by kernel_rfl) (by kernel_rfl) (fun wx hC => ⟨W2, by subst hC; exact sto_E (a := .pointer (some ⟨f, 2, none⟩)) (v := ptr d) rfl (by kernel_rfl) (by kernel_rfl) (by simp [go_sem, D3.out.1, D3.out.2, E2.out]), rfl⟩) ?_
  refine wpG_end (fun w2 hw2 => ?_)
  obtain rfl : w2 = W2 := hw2
  simp only [setL, List.set_cons_zero, List.set_cons_succ]
  clear D1 D2 D3 E2
  go_wp2_with (fail)
  have g2 := K2.out.drew
  have D1 := Lib.hid (g2.cellV 0 rfl 3 rfl).1
  have D2 := Lib.hid (g2.cellV 2 rfl 0 rfl).1
  obtain ⟨wz, ez, kz⟩ := mapDelN g2 1 (v := ptr b) (s := s) rfl ha hs 0
  simp only [List.set_cons_zero, List.set_cons_succ] at kz
  have EZ := Lib.hid ez
  have KZ := Lib.hid kz
  clear g2 ez kz K2 hs
  refine wp_chain_list [8] (fun j wx => wx = match j with | 0 => w2.drew | _ => wz) (by kernel_rfl) (by kernel_rfl) (by kernel_rfl) (by kernel_rfl) rfl ?_
  refine wpG_move (ptr p) rfl (by kernel_rfl) (by kernel_rfl) (by kernel_rfl) ?_
  refine wpG_run1 (x := .tmp 48) (ptr p) (ptr p) (by kernel_rfl) (by kernel_rfl) (by kernel_rfl) (by kernel_rfl) (fun j wx ρ hC h0 hc => nilC rfl ρ wx h0) ?_
  refine wpG_run1 (x := .tmp 49) (ptr p) (.pointer (some ⟨p, 3, none⟩)) (by kernel_rfl) (by kernel_rfl) (by kernel_rfl) (by kernel_rfl) (fun j wx ρ hC h0 hc => fldL rfl (by decide) ρ wx h0) ?_
  refine wpG_runU1 (x := .tmp 50) 0 (.pointer (some ⟨p, 3, none⟩)) (.map (some m)) (by kernel_rfl) (by kernel_rfl) (by kernel_rfl) (by kernel_rfl) (by kernel_rfl) (by kernel_rfl) (fun j wx ρ hj hC h0 hc => ?_) ?_
  · obtain rfl : j = 0 := by omega
    subst hC
    simp [go_sem, h0, D1.out]
  refine wpG_move (ptr b) rfl (by kernel_rfl) (by kernel_rfl) (by kernel_rfl) ?_
  refine wpG_run1 (x := .tmp 52) (ptr b) (ptr b) (by kernel_rfl) (by kernel_rfl) (by kernel_rfl) (by kernel_rfl) (fun j wx ρ hC h0 hc => nilC rfl ρ wx h0) ?_
  refine wpG_run1 (x := .tmp 53) (ptr b) (.pointer (some ⟨b, 0, none⟩)) (by kernel_rfl) (by kernel_rfl) (by kernel_rfl) (by kernel_rfl) (fun j wx ρ hC h0 hc => fldN rfl (by decide) ρ wx h0) ?_
  refine wpG_runU1 (x := .tmp 54) 0 (.pointer (some ⟨b, 0, none⟩)) (.int .u32 (a : Int)) (by kernel_rfl) (by kernel_rfl) (by kernel_rfl) (by kernel_rfl) (by kernel_rfl) (by kernel_rfl) (fun j wx ρ hj hC h0 hc => ?_) ?_
  · obtain rfl : j = 0 := by omega
    subst hC
    simp [go_sem, h0, D2.out]
  refine wpG_op 0 (.tuple #[]) _ (.inl rfl) (by kernel_rfl) (by kernel_rfl) (by kernel_rfl) (by kernel_rfl) (by kernel_rfl) (fun wx hC => ⟨wz, by subst hC; exact del_E (m := .map (some m)) (k := .int .u32 (a : Int)) rfl (by kernel_rfl) (by kernel_rfl) EZ.out, rfl⟩) ?_
  refine wpG_end (fun w3 hw3 => ?_)
  obtain rfl : w3 = wz := hw3
  simp only [setL, List.set_cons_zero, List.set_cons_succ]
  go_wp2
  go_end0
  refine ⟨rfl, ?_⟩
  have h := (KZ.out.perm (List.perm_middle (l₁ := [_, _]))).drop 1
  simp only [List.drop_succ_cons, List.drop_zero] at h
  exact h
end
end Gha
end Go.Proofs.Ytlnhkiamhmjckaa

end
