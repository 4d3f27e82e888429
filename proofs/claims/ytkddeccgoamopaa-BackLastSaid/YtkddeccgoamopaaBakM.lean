/- The mathematics of layer 8: a disk as plain data. -/
import Derived.WalkKit
namespace Go.BakM
abbrev Bs := List UInt8
/-- a write that is not safe -/
structure Put where
  pos : Nat
  b : Bs
structure DS where
  safe : List Bs
  L : List Put
  off : Bool
  left : Int
  n : Nat
def blank : Bs := List.replicate 256 0
theorem blank_len : blank.length = 256 := by unfold blank; exact List.length_replicate ..
def there (s : DS) (i : Int) : Bool := decide (0 ≤ i ∧ i < (s.safe.length : Int))
/-- what the last write of it made of a block, the list the other way round -/
def nowR : List Put → Nat → Option Bs
  | [], _ => none
  | a :: r, i => if a.pos = i then some a.b else nowR r i
def now (s : DS) (i : Nat) : Bs := (nowR s.L.reverse i).getD (s.safe.getD i [])
def trip (s : DS) : DS := if s.left = 0 then { s with off := true, left := -1 } else s
def okd (s : DS) : DS := { s with n := s.n + 1, left := if 0 < s.left then s.left - 1 else s.left }
def write (s : DS) (i : Int) (b : Bs) : DS × Nat :=
  if there s i = false ∨ b.length ≠ 256 then (s, 1)
  else if (trip s).off then (trip s, 6)
  else (okd { trip s with L := (trip s).L ++ [⟨i.toNat, b⟩] }, 0)
def bitOf (t i : Nat) : Bool := decide (t / 2 ^ (i % 64) % 2 = 1)
/-- writes, from number i on, those whose bit is 1 -/
def doAll (t : Nat) : List Bs → Nat → List Put → List Bs
  | safe, _, [] => safe
  | safe, i, a :: r => doAll t (if bitOf t i then safe.set a.pos a.b else safe) (i + 1) r
def some' (s : DS) (t : Nat) : DS := { s with safe := doAll t s.safe 0 s.L, L := [] }
def full : Nat := 18446744073709551615
def barrier (s : DS) : DS × Nat := if (trip s).off then (trip s, 6) else (okd (some' (trip s) full), 0)
def read (s : DS) (i : Int) : Bs × Nat := if there s i = false then ([], 1) else if s.off then ([], 6) else (now s i.toNat, 0)
def cut (s : DS) (n : Int) : DS := if s.off then s else { s with left := max n (-1) }
def crash (s : DS) (t : Nat) : DS := { some' s t with off := false, left := -1 }
def fresh (n : Nat) : DS := ⟨List.replicate n blank, [], false, -1, 0⟩
def mayBe (n : Int) : Bool := decide (0 ≤ n ∧ n ≤ 4096)

/-- it hangs together -/
structure Ok (s : DS) (N : Nat) : Prop where
  len : s.safe.length ≤ 4096
  blocks : ∀ i, i < s.safe.length → (s.safe.getD i []).length = 256
  puts : ∀ a ∈ s.L, a.pos < s.safe.length ∧ a.b.length = 256
  left : -1 ≤ s.left ∧ s.left ≤ 9223372036854775807
  n : s.n ≤ N
  log : s.L.length ≤ s.n
theorem Ok.more {s : DS} {N M : Nat} (h : Ok s N) (hNM : N ≤ M) : Ok s M := ⟨h.len, h.blocks, h.puts, h.left, Nat.le_trans h.n hNM, h.log⟩
theorem ok_fresh (n : Nat) (h : n ≤ 4096) : Ok (fresh n) 0 := by
  refine ⟨by simpa [fresh] using h, fun i hi => ?_, by simp [fresh], ⟨by simp [fresh], by simp [fresh]⟩, Nat.le_refl _, by simp [fresh]⟩
  have hi' : i < n := by simpa [fresh] using hi
  show ((List.replicate n blank).getD i []).length = 256
  simp [List.getD, hi', blank_len]
theorem trip_same (s : DS) : (trip s).safe = s.safe ∧ (trip s).L = s.L ∧ (trip s).n = s.n := by unfold trip; split <;> exact ⟨rfl, rfl, rfl⟩
theorem ok_trip {s : DS} {N : Nat} (h : Ok s N) : Ok (trip s) N := by
  unfold trip
  split
  · exact ⟨h.len, h.blocks, h.puts, ⟨Int.le_refl _, by show (-1 : Int) ≤ _; omega⟩, h.n, h.log⟩
  · exact h
theorem left_okd (s : DS) (h : -1 ≤ s.left ∧ s.left ≤ 9223372036854775807) : -1 ≤ (okd s).left ∧ (okd s).left ≤ 9223372036854775807 := by
  unfold okd
  show -1 ≤ (if 0 < s.left then s.left - 1 else s.left) ∧ (if 0 < s.left then s.left - 1 else s.left) ≤ _
  split <;> omega
theorem ok_write {s : DS} {N : Nat} (h : Ok s N) (i : Int) (b : Bs) : Ok (write s i b).1 (N + 1) := by
  unfold write
  split
  · exact h.more (by omega)
  rename_i hx
  split
  · exact (ok_trip h).more (by omega)
  · have g := ok_trip h
    have hb : b.length = 256 := by
      rcases Nat.decEq b.length 256 with e | e
      · exact absurd (Or.inr e) hx
      · exact e
    have hi : 0 ≤ i ∧ i < (s.safe.length : Int) := by
      cases e : there s i with
      | false => exact absurd (Or.inl e) hx
      | true => simpa [there] using e
    refine ⟨g.len, g.blocks, fun a ha => ?_, left_okd _ g.left, Nat.succ_le_succ g.n, ?_⟩
    · have ha' : a ∈ (trip s).L ++ [⟨i.toNat, b⟩] := ha
      rcases List.mem_append.1 ha' with ha | ha
      · exact g.puts a ha
      · rw [List.mem_singleton] at ha
        subst ha
        have e := (trip_same s).1
        exact And.intro (by show i.toNat < (trip s).safe.length; rw [e]; omega) hb
    · show ((trip s).L ++ ([⟨i.toNat, b⟩] : List Put)).length ≤ (trip s).n + 1
      rw [List.length_append]
      exact Nat.succ_le_succ g.log
/-- what is kept of blocks -/
structure Shape (safe : List Bs) (n : Nat) : Prop where
  len : safe.length = n
  blocks : ∀ i, i < n → (safe.getD i []).length = 256
theorem shape_set {safe : List Bs} {n : Nat} (h : Shape safe n) (i : Nat) (b : Bs) (hb : b.length = 256) : Shape (safe.set i b) n := by
  refine ⟨by rw [List.length_set, h.len], fun j hj => ?_⟩
  by_cases e : i = j
  · subst e
    simp [List.getD, h.len, hj, hb]
  · have := h.blocks j hj
    simpa [List.getD, List.getElem?_set_ne e] using this
theorem shape_all {n : Nat} (t : Nat) : ∀ (L : List Put) (safe : List Bs) (i : Nat), Shape safe n → (∀ a ∈ L, a.pos < n ∧ a.b.length = 256) → Shape (doAll t safe i L) n
  | [], safe, i, h, _ => h
  | a :: L, safe, i, h, ha => by
    unfold doAll
    refine shape_all t L _ (i + 1) ?_ (fun x hx => ha x (List.mem_cons_of_mem _ hx))
    split
    · exact shape_set h _ _ (ha a (List.mem_cons_self ..)).2
    · exact h
theorem Ok.shape {s : DS} {N : Nat} (h : Ok s N) : Shape s.safe s.safe.length := ⟨rfl, h.blocks⟩
theorem ok_some {s : DS} {N : Nat} (h : Ok s N) (t : Nat) : Ok (some' s t) N := by
  have g := shape_all t s.L s.safe 0 h.shape h.puts
  refine ⟨?_, fun i hi => ?_, by simp [some'], h.left, h.n, Nat.zero_le _⟩
  · show (doAll t s.safe 0 s.L).length ≤ 4096
    rw [g.len]; exact h.len
  · exact g.blocks i (by rw [← g.len]; exact hi)
theorem ok_barrier {s : DS} {N : Nat} (h : Ok s N) : Ok (barrier s).1 (N + 1) := by
  unfold barrier
  split
  · exact (ok_trip h).more (by omega)
  · have g := ok_some (ok_trip h) full
    exact ⟨g.len, g.blocks, g.puts, left_okd _ g.left, Nat.succ_le_succ g.n, Nat.le_trans g.log (Nat.le_succ _)⟩
theorem ok_cut {s : DS} {N : Nat} (h : Ok s N) (n : Int) (hn : n ≤ 9223372036854775807) : Ok (cut s n) N := by
  unfold cut
  split
  · exact h
  · exact ⟨h.len, h.blocks, h.puts, ⟨by show -1 ≤ max n (-1); omega, by show max n (-1) ≤ _; omega⟩, h.n, h.log⟩
theorem ok_crash {s : DS} {N : Nat} (h : Ok s N) (t : Nat) : Ok (crash s t) N := by
  have g := ok_some h t
  exact ⟨g.len, g.blocks, g.puts, ⟨Int.le_refl _, by show (-1 : Int) ≤ _; omega⟩, g.n, g.log⟩

/-! ### what follows -/
theorem now_trip (s : DS) (i : Nat) : now (trip s) i = now s i := by unfold now; rw [(trip_same s).1, (trip_same s).2.1]
theorem nowR_snoc (L : List Put) (a : Put) (i : Nat) (d : Bs) : (nowR (L ++ [a]).reverse i).getD d = if a.pos = i then a.b else (nowR L.reverse i).getD d := by
  rw [List.reverse_append]
  have e : nowR (a :: L.reverse) i = if a.pos = i then some a.b else nowR L.reverse i := rfl
  show (nowR (a :: L.reverse) i).getD d = _
  rw [e]
  split <;> rfl
theorem bit_full (i : Nat) : bitOf full i = true := by
  unfold bitOf full
  have h : i % 64 < 64 := Nat.mod_lt _ (by decide)
  have : ∀ j, j < 64 → decide (18446744073709551615 / 2 ^ j % 2 = 1) = true := by decide
  exact this _ h
theorem doAll_get (t : Nat) (i : Nat) : ∀ (L : List Put) (safe : List Bs) (m : Nat), (∀ a ∈ L, a.pos < safe.length) → (∀ j, j < L.length → bitOf t (m + j) = true) → (doAll t safe m L).getD i [] = (nowR L.reverse i).getD (safe.getD i [])
  | [], safe, m, _, _ => rfl
  | a :: L, safe, m, ha, hb => by
    unfold doAll
    have h0 := hb 0 (by simp)
    rw [Nat.add_zero] at h0
    rw [h0, if_pos rfl, doAll_get t i L _ (m + 1) (fun x hx => by rw [List.length_set]; exact ha x (List.mem_cons_of_mem _ hx)) (fun j hj => by rw [show m + 1 + j = m + (j + 1) by omega]; exact hb (j + 1) (by simpa using hj))]
    rw [List.reverse_cons]
    have happ : ∀ (A : List Put), nowR (A ++ [a]) i = match nowR A i with | some b => some b | none => nowR [a] i := by
      intro A
      induction A with
      | nil => rfl
      | cons x A ih =>
        show nowR (x :: (A ++ [a])) i = _
        unfold nowR
        by_cases e : x.pos = i
        · rw [if_pos e, if_pos e]
        · rw [if_neg e, if_neg e]; exact ih
    rw [happ]
    cases hn : nowR L.reverse i with
    | some b => rfl
    | none =>
      show (safe.set a.pos a.b).getD i [] = (nowR [a] i).getD (safe.getD i [])
      unfold nowR
      by_cases e : a.pos = i
      · subst e
        rw [if_pos rfl]
        have hl := ha a (List.mem_cons_self ..)
        simp [List.getD, hl]
      · rw [if_neg e]
        simp [List.getD, List.getElem?_set_ne e, nowR]
theorem now_barrier {s : DS} {N : Nat} (h : Ok s N) (hb : (barrier s).2 = 0) (i : Nat) : now (barrier s).1 i = now s i ∧ (barrier s).1.safe.getD i [] = now s i := by
  unfold barrier at hb ⊢
  split at hb
  · cases hb
  rename_i hx
  rw [if_neg hx]
  have e := doAll_get full i (trip s).L (trip s).safe 0 (fun a ha => (ok_trip h).puts a ha |>.1) (fun j _ => bit_full _)
  have e2 : now (trip s) i = now s i := now_trip s i
  unfold now at e2
  exact ⟨e.trans e2, e.trans e2⟩
end Go.BakM
