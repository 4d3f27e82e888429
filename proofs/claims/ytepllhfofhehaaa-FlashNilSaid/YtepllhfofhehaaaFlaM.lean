/- The mathematics of layer 7: a flash as plain data. -/
import Derived.WalkKit
namespace Go.FlaM
abbrev Bs := List UInt8

/-- an operation that is not safe: page -1: a segment erased -/
structure Act where
  seg : Nat
  page : Int
  b : Bs
structure FS where
  safe : List (List Bs)
  L : List Act
  wear : List Nat
  off : Bool
  left : Int
  n : Nat
  pp : Nat
def blank : Bs := List.replicate 128 255
theorem blank_len : blank.length = 128 := by simp [blank]
def there (s : FS) (seg page : Int) : Bool := decide (0 ≤ seg ∧ seg < (s.safe.length : Int) ∧ 0 ≤ page ∧ page < (s.pp : Int))
def pageAt (safe : List (List Bs)) (i k : Nat) : Bs := (safe.getD i []).getD k []
/-- what the last operation on it made of a page, the list the other way round -/
def nowR : List Act → Nat → Nat → Option Bs
  | [], _, _ => none
  | a :: r, i, k => if a.seg = i ∧ a.page = (k : Int) then some a.b else if a.seg = i ∧ a.page < 0 then some blank else nowR r i k
def now (s : FS) (i k : Nat) : Bs := (nowR s.L.reverse i k).getD (pageAt s.safe i k)
def trip (s : FS) : FS := if s.left = 0 then { s with off := true, left := -1 } else s
def okd (s : FS) : FS := { s with n := s.n + 1, left := if 0 < s.left then s.left - 1 else s.left }
def progF (s : FS) (seg page : Int) (b : Bs) : FS × Nat :=
  if there s seg page = false ∨ b.length ≠ 128 then (s, 1)
  else if s.off then (s, 6)
  else if now s seg.toNat page.toNat ≠ blank then (s, 70)
  else if (trip s).off then (trip s, 6)
  else (okd { trip s with L := (trip s).L ++ [⟨seg.toNat, page, b⟩] }, 0)
def bump (l : List Nat) (i : Nat) : List Nat := l.set i (l.getD i 0 + 1)
def erase (s : FS) (seg : Int) : FS × Nat :=
  if there s seg 0 = false then (s, 1)
  else if (trip s).off then (trip s, 6)
  else (okd { trip s with L := (trip s).L ++ [⟨seg.toNat, -1, []⟩], wear := bump (trip s).wear seg.toNat }, 0)
def setPage (safe : List (List Bs)) (i k : Nat) (b : Bs) : List (List Bs) := safe.set i ((safe.getD i []).set k b)
/-- the first m pages of a segment are erased -/
def clearTo (safe : List (List Bs)) (i : Nat) : Nat → List (List Bs)
  | 0 => safe
  | m + 1 => setPage (clearTo safe i m) i m blank
/-- one operation, with its fate -/
def doOne (pp : Nat) (safe : List (List Bs)) (a : Act) (fate : Int) : List (List Bs) :=
  if 0 ≤ a.page then setPage safe a.seg a.page.toNat (a.b.take (min fate.toNat 128) ++ (pageAt safe a.seg a.page.toNat).drop (min fate.toNat 128))
  else clearTo safe a.seg (min fate.toNat pp)
/-- operations, from number i on, with their fates -/
def doAll (pp : Nat) (fates : List Int) : List (List Bs) → Nat → List Act → List (List Bs)
  | safe, _, [] => safe
  | safe, i, a :: r => doAll pp fates (doOne pp safe a (fates.getD i 0)) (i + 1) r
def some' (s : FS) (fates : List Int) : FS := { s with safe := doAll s.pp fates s.safe 0 s.L, L := [] }
def barrier (s : FS) : FS × Nat :=
  if (trip s).off then (trip s, 6) else (okd (some' (trip s) (List.replicate (trip s).L.length 128)), 0)
def read (s : FS) (seg page : Int) : Bs × Nat :=
  if there s seg page = false then ([], 1) else if s.off then ([], 6) else (now s seg.toNat page.toNat, 0)
def cut (s : FS) (after : Int) : FS := if s.off then s else { s with left := max after (-1) }
def crash (s : FS) (fates : List Int) : FS := { some' s fates with off := false, left := -1 }
def wearOf (s : FS) (seg : Int) : Nat := if 0 ≤ seg then s.wear.getD seg.toNat 0 else 0
def fresh (segs pages : Nat) : FS := ⟨List.replicate segs (List.replicate pages blank), [], List.replicate segs 0, false, -1, 0, pages⟩
def mayBe (segs pages : Int) : Bool := decide (0 ≤ segs ∧ segs ≤ 256 ∧ 1 ≤ pages ∧ pages ≤ 64)

/-- it hangs together -/
structure Ok (s : FS) (N : Nat) : Prop where
  segs : s.safe.length ≤ 256
  pp : 1 ≤ s.pp ∧ s.pp ≤ 64
  rows : ∀ i, i < s.safe.length → (s.safe.getD i []).length = s.pp
  pages : ∀ i k, i < s.safe.length → k < s.pp → (pageAt s.safe i k).length = 128
  wear : s.wear.length = s.safe.length
  acts : ∀ a ∈ s.L, a.seg < s.safe.length ∧ ((0 ≤ a.page ∧ a.page < (s.pp : Int) ∧ a.b.length = 128) ∨ (a.page = -1 ∧ a.b = []))
  left : -1 ≤ s.left ∧ s.left ≤ 9223372036854775807
  n : s.n ≤ N
  log : s.L.length ≤ s.n
  worn : ∀ i, s.wear.getD i 0 ≤ s.n

theorem getD_set_self {α : Type} (l : List α) (i : Nat) (x d : α) (h : i < l.length) : (l.set i x).getD i d = x := by simp [List.getD, h]
theorem getD_set_ne {α : Type} (l : List α) (i j : Nat) (x d : α) (h : i ≠ j) : (l.set i x).getD j d = l.getD j d := by simp [List.getD, List.getElem?_set_ne h]
theorem setPage_len (safe : List (List Bs)) (i k : Nat) (b : Bs) : (setPage safe i k b).length = safe.length := by simp [setPage]
theorem setPage_row (safe : List (List Bs)) (i k j : Nat) (b : Bs) : ((setPage safe i k b).getD j []).length = (safe.getD j []).length := by
  unfold setPage
  by_cases h : i = j
  · subst h
    by_cases hl : i < safe.length
    · rw [getD_set_self _ _ _ _ hl, List.length_set]
    · rw [List.set_eq_of_length_le (by omega)]
  · rw [getD_set_ne _ _ _ _ _ h]
theorem setPage_at (safe : List (List Bs)) (i k i' k' : Nat) (b : Bs) (hi : i < safe.length) (hk : k < (safe.getD i []).length) : pageAt (setPage safe i k b) i' k' = if i = i' ∧ k = k' then b else pageAt safe i' k' := by
  unfold pageAt setPage
  by_cases h : i = i'
  · subst h
    rw [getD_set_self _ _ _ _ hi]
    by_cases h2 : k = k'
    · subst h2
      rw [if_pos ⟨rfl, rfl⟩, getD_set_self _ _ _ _ hk]
    · rw [if_neg (fun h => h2 h.2), getD_set_ne _ _ _ _ _ h2]
  · rw [if_neg (fun h' => h h'.1), getD_set_ne _ _ _ _ _ h]
theorem clearTo_len (safe : List (List Bs)) (i m : Nat) : (clearTo safe i m).length = safe.length := by
  induction m with
  | zero => rfl
  | succ m ih => rw [clearTo, setPage_len, ih]
theorem clearTo_row (safe : List (List Bs)) (i m j : Nat) : ((clearTo safe i m).getD j []).length = (safe.getD j []).length := by
  induction m with
  | zero => rfl
  | succ m ih => rw [clearTo, setPage_row, ih]
theorem clearTo_at (safe : List (List Bs)) (i m i' k' : Nat) (hi : i < safe.length) (hm : m ≤ (safe.getD i []).length) : pageAt (clearTo safe i m) i' k' = if i = i' ∧ k' < m then blank else pageAt safe i' k' := by
  induction m with
  | zero => simp [clearTo]
  | succ m ih =>
    rw [clearTo, setPage_at _ _ _ _ _ _ (by rw [clearTo_len]; exact hi) (by rw [clearTo_row]; omega), ih (by omega)]
    by_cases h : i = i'
    · subst h
      by_cases h2 : m = k'
      · subst h2; simp
      · by_cases h3 : k' < m
        · rw [if_neg (fun h => h2 h.2), if_pos ⟨rfl, h3⟩, if_pos ⟨rfl, by omega⟩]
        · rw [if_neg (fun h => h2 h.2), if_neg (fun h => h3 h.2), if_neg (fun h => by omega)]
    · simp [h]

theorem Ok.more {s : FS} {N M : Nat} (h : Ok s N) (hNM : N ≤ M) : Ok s M := ⟨h.segs, h.pp, h.rows, h.pages, h.wear, h.acts, h.left, Nat.le_trans h.n hNM, h.log, h.worn⟩
theorem ok_fresh (segs pages : Nat) (h1 : segs ≤ 256) (h2 : 1 ≤ pages ∧ pages ≤ 64) : Ok (fresh segs pages) 0 := by
  have hr : ∀ i, i < segs → (List.replicate segs (List.replicate pages blank)).getD i [] = List.replicate pages blank := fun i hi => by simp [List.getD, hi]
  refine ⟨by simpa [fresh] using h1, h2, ?_, ?_, by simp [fresh], by simp [fresh], ⟨by simp [fresh], by simp [fresh]⟩, Nat.le_refl _, by simp [fresh], fun i => ?_⟩
  · intro i hi
    have hi' : i < segs := by simpa [fresh] using hi
    show ((List.replicate segs (List.replicate pages blank)).getD i []).length = pages
    rw [hr i hi']; simp
  · intro i k hi hk
    have hi' : i < segs := by simpa [fresh] using hi
    have hk' : k < pages := hk
    show (((List.replicate segs (List.replicate pages blank)).getD i []).getD k []).length = 128
    rw [hr i hi']; simp [List.getD, hk', blank_len]
  · show (List.replicate segs 0).getD i 0 ≤ 0
    simp [List.getD, List.getElem?_replicate]; split <;> simp
theorem ok_trip {s : FS} {N : Nat} (h : Ok s N) : Ok (trip s) N := by
  unfold trip
  split
  · exact ⟨h.segs, h.pp, h.rows, h.pages, h.wear, h.acts, ⟨Int.le_refl _, by show (-1 : Int) ≤ _; omega⟩, h.n, h.log, h.worn⟩
  · exact h
theorem left_okd (s : FS) (h : -1 ≤ s.left ∧ s.left ≤ 9223372036854775807) : -1 ≤ (okd s).left ∧ (okd s).left ≤ 9223372036854775807 := by
  show -1 ≤ (if 0 < s.left then s.left - 1 else s.left) ∧ (if 0 < s.left then s.left - 1 else s.left) ≤ 9223372036854775807
  split <;> omega
theorem there_spec {s : FS} {seg page : Int} (h : there s seg page = true) : 0 ≤ seg ∧ seg < (s.safe.length : Int) ∧ 0 ≤ page ∧ page < (s.pp : Int) := by simpa [there] using h
theorem there_trip (s : FS) (seg page : Int) : there (trip s) seg page = there s seg page := by unfold trip; split <;> rfl
theorem trip_safe (s : FS) : (trip s).safe = s.safe ∧ (trip s).L = s.L ∧ (trip s).wear = s.wear ∧ (trip s).n = s.n ∧ (trip s).pp = s.pp := by unfold trip; split <;> exact ⟨rfl, rfl, rfl, rfl, rfl⟩
theorem ok_program {s : FS} {N : Nat} (h : Ok s N) (seg page : Int) (b : Bs) : Ok (progF s seg page b).1 (N + 1) := by
  unfold progF
  split
  · exact h.more (by omega)
  rename_i ht
  split
  · exact h.more (by omega)
  split
  · exact h.more (by omega)
  split
  · exact (ok_trip h).more (by omega)
  have ht2 : there s seg page = true := by
    cases hx : there s seg page with
    | true => rfl
    | false => exact absurd (Or.inl hx) ht
  have hb : b.length = 128 := by
    rcases Nat.decEq b.length 128 with hx | hx
    · exact absurd (Or.inr hx) ht
    · exact hx
  obtain ⟨t1, t2, t3, t4⟩ := there_spec ht2
  have g := ok_trip h
  obtain ⟨e1, e2, e3, e4, e5⟩ := trip_safe s
  refine ⟨g.segs, g.pp, g.rows, g.pages, g.wear, ?_, left_okd _ g.left, ?_, ?_, fun i => Nat.le_trans (g.worn i) (Nat.le_succ _)⟩
  · intro a ha
    have ha' : a ∈ (trip s).L ++ [⟨seg.toNat, page, b⟩] := ha
    rcases List.mem_append.1 ha' with hx | hx
    · exact g.acts a hx
    · have hx2 : a = ⟨seg.toNat, page, b⟩ := by simpa using hx
      subst hx2
      refine ⟨?_, .inl ⟨t3, ?_, hb⟩⟩
      · show seg.toNat < (trip s).safe.length
        rw [e1]; omega
      · show page < ((trip s).pp : Int)
        rw [e5]; exact t4
  · exact Nat.succ_le_succ g.n
  · show ((trip s).L ++ [(⟨seg.toNat, page, b⟩ : Act)]).length ≤ (trip s).n + 1
    rw [List.length_append, List.length_singleton]
    exact Nat.succ_le_succ g.log
theorem bump_get (l : List Nat) (i j : Nat) (h : i < l.length) : (bump l i).getD j 0 = if i = j then l.getD i 0 + 1 else l.getD j 0 := by
  unfold bump
  by_cases hij : i = j
  · subst hij
    rw [if_pos rfl, getD_set_self _ _ _ _ h]
  · rw [if_neg hij, getD_set_ne _ _ _ _ _ hij]
theorem ok_erase {s : FS} {N : Nat} (h : Ok s N) (seg : Int) : Ok (erase s seg).1 (N + 1) := by
  unfold erase
  split
  · exact h.more (by omega)
  rename_i ht
  split
  · exact (ok_trip h).more (by omega)
  have ht2 : there s seg 0 = true := by
    cases hx : there s seg 0 with
    | true => rfl
    | false => exact absurd hx ht
  obtain ⟨t1, t2, _, _⟩ := there_spec ht2
  have g := ok_trip h
  obtain ⟨e1, e2, e3, e4, e5⟩ := trip_safe s
  have hsw : seg.toNat < (trip s).wear.length := by rw [g.wear, e1]; omega
  refine ⟨g.segs, g.pp, g.rows, g.pages, ?_, ?_, left_okd _ g.left, ?_, ?_, fun i => ?_⟩
  · show (bump (trip s).wear seg.toNat).length = (trip s).safe.length
    unfold bump
    rw [List.length_set]; exact g.wear
  · intro a ha
    have ha' : a ∈ (trip s).L ++ [⟨seg.toNat, -1, []⟩] := ha
    rcases List.mem_append.1 ha' with hx | hx
    · exact g.acts a hx
    · have hx2 : a = ⟨seg.toNat, -1, []⟩ := by simpa using hx
      subst hx2
      refine ⟨?_, .inr ⟨rfl, rfl⟩⟩
      show seg.toNat < (trip s).safe.length
      rw [e1]; omega
  · exact Nat.succ_le_succ g.n
  · show ((trip s).L ++ [(⟨seg.toNat, -1, []⟩ : Act)]).length ≤ (trip s).n + 1
    rw [List.length_append, List.length_singleton]
    exact Nat.succ_le_succ g.log
  · show (bump (trip s).wear seg.toNat).getD i 0 ≤ (trip s).n + 1
    rw [bump_get _ _ _ hsw]
    split
    · exact Nat.succ_le_succ (g.worn _)
    · exact Nat.le_trans (g.worn i) (Nat.le_succ _)
/-- what is kept of pages by operations that were done in part -/
structure Shape (safe : List (List Bs)) (n pp : Nat) : Prop where
  len : safe.length = n
  rows : ∀ i, i < n → (safe.getD i []).length = pp
  pages : ∀ i k, i < n → k < pp → (pageAt safe i k).length = 128
theorem shape_set {safe : List (List Bs)} {n pp : Nat} (h : Shape safe n pp) (i k : Nat) (hi : i < n) (hk : k < pp) (b : Bs) (hb : b.length = 128) : Shape (setPage safe i k b) n pp := by
  refine ⟨by rw [setPage_len, h.len], fun j hj => by rw [setPage_row, h.rows j hj], fun j m hj hm => ?_⟩
  rw [setPage_at _ _ _ _ _ _ (by rw [h.len]; exact hi) (by rw [h.rows i hi]; exact hk)]
  split
  · exact hb
  · exact h.pages j m hj hm
theorem shape_clear {safe : List (List Bs)} {n pp : Nat} (h : Shape safe n pp) (i m : Nat) (hi : i < n) (hm : m ≤ pp) : Shape (clearTo safe i m) n pp := by
  induction m with
  | zero => exact h
  | succ m ih => exact shape_set (ih (by omega)) i m hi (by omega) blank blank_len
theorem shape_one {safe : List (List Bs)} {n pp : Nat} (h : Shape safe n pp) (a : Act) (ha : a.seg < n ∧ ((0 ≤ a.page ∧ a.page < (pp : Int) ∧ a.b.length = 128) ∨ (a.page = -1 ∧ a.b = []))) (fate : Int) : Shape (doOne pp safe a fate) n pp := by
  unfold doOne
  split
  · rcases ha.2 with ⟨h1, h2, h3⟩ | ⟨h1, _⟩
    · refine shape_set h _ _ ha.1 (by omega) _ ?_
      have := h.pages a.seg a.page.toNat ha.1 (by omega)
      rw [List.length_append, List.length_take, List.length_drop, this, h3]; omega
    · omega
  · exact shape_clear h _ _ ha.1 (by omega)
theorem shape_all {n pp : Nat} (fates : List Int) : ∀ (L : List Act) (safe : List (List Bs)) (i : Nat), Shape safe n pp → (∀ a ∈ L, a.seg < n ∧ ((0 ≤ a.page ∧ a.page < (pp : Int) ∧ a.b.length = 128) ∨ (a.page = -1 ∧ a.b = []))) → Shape (doAll pp fates safe i L) n pp
  | [], safe, i, h, _ => h
  | a :: L, safe, i, h, ha => shape_all fates L _ (i + 1) (shape_one h a (ha a (List.mem_cons_self ..)) _) (fun x hx => ha x (List.mem_cons_of_mem _ hx))
theorem Ok.shape {s : FS} {N : Nat} (h : Ok s N) : Shape s.safe s.safe.length s.pp := ⟨rfl, h.rows, h.pages⟩
theorem ok_some {s : FS} {N : Nat} (h : Ok s N) (fates : List Int) : Ok (some' s fates) N := by
  have g := shape_all fates s.L s.safe 0 h.shape h.acts
  refine ⟨?_, h.pp, ?_, ?_, ?_, by simp [some'], h.left, h.n, Nat.zero_le _, h.worn⟩
  · show (doAll s.pp fates s.safe 0 s.L).length ≤ 256
    rw [g.len]; exact h.segs
  · intro i hi
    exact g.rows i (by rw [← g.len]; exact hi)
  · intro i k hi hk
    exact g.pages i k (by rw [← g.len]; exact hi) hk
  · show s.wear.length = (doAll s.pp fates s.safe 0 s.L).length
    rw [g.len]; exact h.wear
theorem ok_barrier {s : FS} {N : Nat} (h : Ok s N) : Ok (barrier s).1 (N + 1) := by
  unfold barrier
  split
  · exact (ok_trip h).more (by omega)
  · have g := ok_some (ok_trip h) (List.replicate (trip s).L.length 128)
    exact ⟨g.segs, g.pp, g.rows, g.pages, g.wear, g.acts, left_okd _ g.left, Nat.succ_le_succ g.n, Nat.le_trans g.log (Nat.le_succ _), fun i => Nat.le_trans (g.worn i) (Nat.le_succ _)⟩
theorem ok_cut {s : FS} {N : Nat} (h : Ok s N) (after : Int) (ha : after ≤ 9223372036854775807) : Ok (cut s after) N := by
  unfold cut
  split
  · exact h
  · exact ⟨h.segs, h.pp, h.rows, h.pages, h.wear, h.acts, ⟨by show -1 ≤ max after (-1); omega, by show max after (-1) ≤ _; omega⟩, h.n, h.log, h.worn⟩
theorem ok_crash {s : FS} {N : Nat} (h : Ok s N) (fates : List Int) : Ok (crash s fates) N := by
  have g := ok_some h fates
  exact ⟨g.segs, g.pp, g.rows, g.pages, g.wear, g.acts, ⟨Int.le_refl _, by show (-1 : Int) ≤ _; omega⟩, g.n, g.log, g.worn⟩
end Go.FlaM
