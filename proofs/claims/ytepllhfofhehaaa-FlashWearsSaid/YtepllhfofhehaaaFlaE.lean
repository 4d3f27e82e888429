/- Layer 7: shape and wear over acts; what is read behind an erase. -/
import Derived.Test.YtepllhfofhehaaaFlaC
namespace Go.Proofs.Ytepllhfofhehaaa
open Go.RowKit Go.Own
namespace Fla
open Go.FlaM Byt

/-- how large it is -/
def Size (s : FS) (n pp : Nat) : Prop := s.safe.length = n ∧ s.pp = pp
theorem size_trip {s : FS} {n pp : Nat} (h : Size s n pp) : Size (trip s) n pp := by
  obtain ⟨e1, _, _, _, e5⟩ := trip_safe s
  exact ⟨by rw [e1]; exact h.1, by rw [e5]; exact h.2⟩
theorem size_some {s : FS} {n pp N : Nat} (ok : Ok s N) (h : Size s n pp) (fates : List Int) : Size (some' s fates) n pp := by
  have g := shape_all fates s.L s.safe 0 ok.shape ok.acts
  exact ⟨by show (doAll s.pp fates s.safe 0 s.L).length = n; rw [g.len]; exact h.1, h.2⟩
theorem size_act {s : FS} {n pp N : Nat} (ok : Ok s N) (h : Size s n pp) (a : ActD) : Size (doAct s a).1 n pp := by
  unfold doAct
  split
  · unfold progF
    split
    · exact h
    split
    · exact h
    split
    · exact h
    split
    · exact size_trip h
    · exact size_trip h
  · unfold erase
    split
    · exact h
    split
    · exact size_trip h
    · exact size_trip h
  · unfold barrier
    split
    · exact size_trip h
    · exact size_some (ok_trip ok) (size_trip h) _
  · unfold cut
    split
    · exact h
    · exact h
  · exact size_some ok h _
  · exact h
theorem err_le (s : FS) (seg : Int) : (erase s seg).2 = 0 → there s seg 0 = true ∧ (trip s).off = false ∧ erase s seg = (okd { trip s with L := (trip s).L ++ [⟨seg.toNat, -1, []⟩], wear := bump (trip s).wear seg.toNat }, 0) := by
  unfold erase
  split
  · intro h; cases h
  rename_i ht
  split
  · intro h; cases h
  rename_i ho
  exact fun _ => ⟨by simpa using ht, by simpa using ho, rfl⟩
/-- nothing but an erase that was OK wears -/
theorem wear_act (s : FS) (a : ActD) (h : ¬ (a.kind.toNat % 6 = 1 ∧ (doAct s a).2 = 0)) : (doAct s a).1.wear = s.wear := by
  have et : (trip s).wear = s.wear := (trip_safe s).2.2.1
  unfold doAct at h ⊢
  split
  · unfold progF
    split
    · rfl
    split
    · rfl
    split
    · rfl
    split
    · exact et
    · exact et
  · rename_i h1
    rw [h1] at h
    have hr : (erase s a.seg).2 ≠ 0 := fun e => h ⟨rfl, e⟩
    unfold erase at hr ⊢
    split
    · rfl
    · rename_i ht
      rw [if_neg ht] at hr
      split
      · exact et
      · rename_i ho
        rw [if_neg ho] at hr
        exact absurd rfl hr
  · unfold barrier
    split
    · exact et
    · exact et
  · unfold cut
    split
    · rfl
    · rfl
  · rfl
  · rfl
theorem now_erased (s : FS) (i k : Nat) (L : List FlaM.Act) : now { s with L := L ++ [(⟨i, -1, []⟩ : FlaM.Act)] } i k = FlaM.blank := by
  unfold now
  simp only [List.reverse_append, List.reverse_cons, List.reverse_nil, List.nil_append, List.singleton_append]
  unfold nowR
  rw [if_neg (by intro h; have := h.2; simp only at this; omega), if_pos ⟨rfl, by show (-1 : Int) < 0; omega⟩]
  rfl
/-- behind an erase that was OK -/
theorem erase_ok {s : FS} {n pp : Nat} (hs : Size s n pp) (seg : Int) (h : (erase s seg).2 = 0) : ∃ i : Nat, seg = (i : Int) ∧ i < n ∧ (erase s seg).1.wear = bump s.wear i ∧ ∀ k : Nat, k < pp → read (erase s seg).1 seg (k : Int) = (FlaM.blank, 0) := by
  obtain ⟨h1, h2, h3⟩ := err_le s seg h
  obtain ⟨t1, t2, t3, t4⟩ := there_spec h1
  obtain ⟨i, rfl⟩ := Int.eq_ofNat_of_zero_le t1
  obtain ⟨e1, e2, e3, e4, e5⟩ := trip_safe s
  have hin : i < n := by rw [hs.1] at t2; omega
  refine ⟨i, rfl, hin, ?_, fun k hk => ?_⟩
  · rw [h3]
    show bump (trip s).wear ((i : Int)).toNat = _
    rw [e3, Int.toNat_natCast]
  · rw [h3]
    unfold FlaM.read
    rw [if_neg, if_neg]
    · show (now _ _ _, 0) = _
      simp only [Int.toNat_natCast]
      exact congrArg (fun x => (x, 0)) (now_erased { okd { trip s with wear := bump (trip s).wear i } with L := [] } i k (trip s).L)
    · show ¬ (trip s).off = true
      rw [h2]; decide
    · intro hh
      have ht : there (okd { trip s with L := (trip s).L ++ [⟨((i : Int)).toNat, -1, []⟩], wear := bump (trip s).wear ((i : Int)).toNat }) (i : Int) (k : Int) = true := by
        show decide _ = true
        rw [decide_eq_true_eq]
        refine ⟨by omega, ?_, by omega, ?_⟩
        · show (i : Int) < ((trip s).safe.length : Int)
          rw [e1, hs.1]; omega
        · show (k : Int) < ((trip s).pp : Int)
          rw [e5, hs.2]; omega
      rw [ht] at hh; cases hh
theorem wearOf_nat (s : FS) (i : Nat) : wearOf s (i : Int) = s.wear.getD i 0 := by
  unfold wearOf
  rw [if_pos (by omega), Int.toNat_natCast]
def natV (n : Nat) : Value := .int .i64 (n : Int)

/-- no operation that is not safe is on this page -/
def Pristine (s : FS) (i k : Nat) : Prop := ∀ a ∈ s.L, ¬ (a.seg = i ∧ (a.page = (k : Int) ∨ a.page < 0))
theorem setPage_other (safe : List (List Bs)) (i k i' k' : Nat) (b : Bs) (h : ¬ (i = i' ∧ k = k')) : pageAt (setPage safe i k b) i' k' = pageAt safe i' k' := by
  unfold pageAt setPage
  by_cases hi : i = i'
  · subst hi
    have hk : k ≠ k' := fun e => h ⟨rfl, e⟩
    by_cases hl : i < safe.length
    · rw [FlaM.getD_set_self _ _ _ _ hl, FlaM.getD_set_ne _ _ _ _ _ hk]
    · rw [List.set_eq_of_length_le (by omega)]
  · rw [FlaM.getD_set_ne _ _ _ _ _ hi]
theorem clearTo_other (safe : List (List Bs)) (i m i' k' : Nat) (h : i ≠ i') : pageAt (clearTo safe i m) i' k' = pageAt safe i' k' := by
  induction m with
  | zero => rfl
  | succ m ih => rw [clearTo, setPage_other _ _ _ _ _ _ (fun e => h e.1), ih]
theorem doAll_other (pp : Nat) (fates : List Int) (i k : Nat) : ∀ (L : List FlaM.Act) (safe : List (List Bs)) (n : Nat), (∀ a ∈ L, ¬ (a.seg = i ∧ (a.page = (k : Int) ∨ a.page < 0))) → pageAt (doAll pp fates safe n L) i k = pageAt safe i k
  | [], _, _, _ => rfl
  | a :: L, safe, n, h => by
    have ha := h a (List.mem_cons_self ..)
    show pageAt (doAll pp fates (doOne pp safe a (fates.getD n 0)) (n + 1) L) i k = _
    rw [doAll_other pp fates i k L _ (n + 1) (fun x hx => h x (List.mem_cons_of_mem _ hx))]
    unfold doOne
    split
    · rename_i hp
      exact setPage_other _ _ _ _ _ _ (fun e => ha ⟨e.1, .inl (by omega)⟩)
    · rename_i hp
      exact clearTo_other _ _ _ _ _ (fun e => ha ⟨e, .inr (by omega)⟩)
theorem nowR_none (i k : Nat) : ∀ (L : List FlaM.Act), (∀ a ∈ L, ¬ (a.seg = i ∧ (a.page = (k : Int) ∨ a.page < 0))) → nowR L i k = none
  | [], _ => rfl
  | a :: L, h => by
    have ha := h a (List.mem_cons_self ..)
    unfold nowR
    rw [if_neg (fun e => ha ⟨e.1, .inl e.2⟩), if_neg (fun e => ha ⟨e.1, .inr e.2⟩)]
    exact nowR_none i k L (fun x hx => h x (List.mem_cons_of_mem _ hx))
theorem now_pristine {s : FS} {i k : Nat} (h : Pristine s i k) : now s i k = pageAt s.safe i k := by
  unfold now
  rw [nowR_none i k _ (fun a ha => h a (List.mem_reverse.1 ha))]
  rfl
theorem pris_trip {s : FS} {i k : Nat} (h : Pristine s i k) : Pristine (trip s) i k := by
  unfold Pristine
  rw [(trip_safe s).2.1]
  exact h
theorem pris_crash (s : FS) (i k : Nat) (fates : List Int) : Pristine (crash s fates) i k := fun a ha => by cases ha
theorem pris_barrier (s : FS) (i k : Nat) (h : (barrier s).2 = 0) : Pristine (barrier s).1 i k := by
  unfold barrier at h ⊢
  split
  · rename_i ho; rw [if_pos ho] at h; cases h
  · exact fun a ha => by cases ha
/-- what an act leaves pristine -/
theorem pris_act {s : FS} {i k : Nat} (h : Pristine s i k) (a : ActD) (ht : ¬ (a.seg = (i : Int) ∧ (a.kind.toNat % 6 = 0 ∧ a.page = (k : Int) ∨ a.kind.toNat % 6 = 1))) : Pristine (doAct s a).1 i k := by
  unfold doAct
  split
  · rename_i h0
    unfold progF
    split
    · exact h
    rename_i hth
    split
    · exact h
    split
    · exact h
    split
    · exact pris_trip h
    · intro x hx
      have hx' : x ∈ (trip s).L ++ [⟨a.seg.toNat, a.page, bytesOf a⟩] := hx
      rcases List.mem_append.1 hx' with hy | hy
      · exact pris_trip h x hy
      · have hy2 : x = ⟨a.seg.toNat, a.page, bytesOf a⟩ := by simpa using hy
        subst hy2
        have ht2 : there s a.seg a.page = true := by
          cases hq : there s a.seg a.page with
          | true => rfl
          | false => exact absurd (Or.inl hq) hth
        obtain ⟨t1, t2, t3, t4⟩ := there_spec ht2
        rintro ⟨e1, e2⟩
        have e1' : a.seg.toNat = i := e1
        rcases e2 with e2 | e2
        · exact ht ⟨by omega, .inl ⟨h0, e2⟩⟩
        · have e2' : a.page < 0 := e2
          omega
  · rename_i h1
    unfold erase
    split
    · exact h
    rename_i hth
    split
    · exact pris_trip h
    · intro x hx
      have hx' : x ∈ (trip s).L ++ [⟨a.seg.toNat, -1, []⟩] := hx
      rcases List.mem_append.1 hx' with hy | hy
      · exact pris_trip h x hy
      · have hy2 : x = ⟨a.seg.toNat, -1, []⟩ := by simpa using hy
        subst hy2
        have ht2 : there s a.seg 0 = true := by
          cases hq : there s a.seg 0 with
          | true => rfl
          | false => exact absurd hq hth
        obtain ⟨t1, t2, _, _⟩ := there_spec ht2
        rintro ⟨e1, _⟩
        have e1' : a.seg.toNat = i := e1
        exact ht ⟨by omega, .inr h1⟩
  · unfold barrier
    split
    · exact pris_trip h
    · exact fun x hx => by cases hx
  · unfold cut
    split
    · exact h
    · exact h
  · exact pris_crash s i k _
  · exact h
theorem there_at {s : FS} {n pp i k : Nat} (hs : Size s n pp) (hi : i < n) (hk : k < pp) : there s (i : Int) (k : Int) = true := by
  show decide _ = true
  rw [decide_eq_true_eq]
  exact ⟨by omega, by rw [hs.1]; omega, by omega, by rw [hs.2]; omega⟩
theorem read_at {s : FS} {n pp i k : Nat} (hs : Size s n pp) (hi : i < n) (hk : k < pp) : FlaM.read s (i : Int) (k : Int) = if s.off then ([], 6) else (now s i k, 0) := by
  unfold FlaM.read
  rw [if_neg (by rw [there_at hs hi hk]; decide), Int.toNat_natCast, Int.toNat_natCast]
/-- what was safe stays -/
theorem safe_step {s : FS} {n pp N i k : Nat} (ok : Ok s N) (hs : Size s n pp) (hi : i < n) (hk : k < pp) (h : Pristine s i k) (fates : List Int) (hg : (FlaM.read s (i : Int) (k : Int)).2 = 0) : FlaM.read (crash s fates) (i : Int) (k : Int) = FlaM.read s (i : Int) (k : Int) := by
  rw [read_at hs hi hk] at hg ⊢
  have hs2 : Size (crash s fates) n pp := size_some ok hs fates
  rw [read_at hs2 hi hk]
  cases ho : s.off with
  | true => rw [ho] at hg; simp at hg
  | false =>
    show (now (crash s fates) i k, 0) = (now s i k, 0)
    rw [now_pristine (pris_crash s i k fates), now_pristine h]
    show (pageAt (doAll s.pp fates s.safe 0 s.L) i k, 0) = _
    rw [doAll_other s.pp fates i k s.L s.safe 0 h]
end Fla
end Go.Proofs.Ytepllhfofhehaaa
