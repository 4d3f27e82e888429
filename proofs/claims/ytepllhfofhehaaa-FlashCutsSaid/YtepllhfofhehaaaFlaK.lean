/- Layer 7: a page, as it is now, behind an act. -/
import Derived.Test.YtepllhfofhehaaaFlaE
namespace Go.Proofs.Ytepllhfofhehaaa
open Go.RowKit Go.Own
namespace Fla
open Go.FlaM Byt

theorem nowR_cons (a : FlaM.Act) (r : List FlaM.Act) (i k : Nat) : nowR (a :: r) i k = if a.seg = i ∧ a.page = (k : Int) then some a.b else if a.seg = i ∧ a.page < 0 then some FlaM.blank else nowR r i k := rfl
theorem nowR_app (i k : Nat) (B : List FlaM.Act) : ∀ (A : List FlaM.Act), nowR (A ++ B) i k = (match nowR A i k with | some b => some b | none => nowR B i k)
  | [] => rfl
  | a :: A => by
    rw [List.cons_append, nowR_cons, nowR_cons]
    by_cases h1 : a.seg = i ∧ a.page = (k : Int)
    · rw [if_pos h1, if_pos h1]
    · rw [if_neg h1, if_neg h1]
      by_cases h2 : a.seg = i ∧ a.page < 0
      · rw [if_pos h2, if_pos h2]
      · rw [if_neg h2, if_neg h2, nowR_app i k B A]
/-- what one operation, done whole, makes of a page -/
def oneAt (a : FlaM.Act) (i k : Nat) (d : Bs) : Bs := if a.seg = i ∧ a.page = (k : Int) then a.b else if a.seg = i ∧ a.page < 0 then FlaM.blank else d
theorem nowR_one (a : FlaM.Act) (i k : Nat) (d : Bs) : (nowR [a] i k).getD d = oneAt a i k d := by
  unfold oneAt
  simp only [nowR]
  by_cases h1 : a.seg = i ∧ a.page = (k : Int)
  · rw [if_pos h1, if_pos h1]; rfl
  · rw [if_neg h1, if_neg h1]
    by_cases h2 : a.seg = i ∧ a.page < 0
    · rw [if_pos h2, if_pos h2]; rfl
    · rw [if_neg h2, if_neg h2]; rfl
theorem doOne_at {safe : List (List Bs)} {n pp : Nat} (h : Shape safe n pp) (hpp : pp ≤ 64) (a : FlaM.Act) (ha : a.seg < n ∧ ((0 ≤ a.page ∧ a.page < (pp : Int) ∧ a.b.length = 128) ∨ (a.page = -1 ∧ a.b = []))) (i k : Nat) (hi : i < n) (hk : k < pp) :
    pageAt (doOne pp safe a 128) i k = oneAt a i k (pageAt safe i k) := by
  unfold doOne oneAt
  rcases ha.2 with ⟨h1, h2, h3⟩ | ⟨h1, h3⟩
  · rw [if_pos h1]
    have hp : (pageAt safe a.seg a.page.toNat).length = 128 := h.pages _ _ ha.1 (by omega)
    have e : a.b.take (min (128 : Int).toNat 128) ++ (pageAt safe a.seg a.page.toNat).drop (min (128 : Int).toNat 128) = a.b := by
      rw [show min (128 : Int).toNat 128 = 128 from rfl, List.take_of_length_le (by omega), List.drop_of_length_le (by omega), List.append_nil]
    rw [e, setPage_at _ _ _ _ _ _ (by rw [h.len]; exact ha.1) (by rw [h.rows _ ha.1]; omega)]
    by_cases hc : a.seg = i ∧ a.page.toNat = k
    · rw [if_pos hc, if_pos ⟨hc.1, by have := hc.2; omega⟩]
    · rw [if_neg hc, if_neg (fun e => hc ⟨e.1, by have := e.2; omega⟩), if_neg (fun e => by have := e.2; omega)]
  · rw [if_neg (by omega), show min (128 : Int).toNat pp = pp from by show min 128 pp = pp; omega, clearTo_at _ _ _ _ _ (by rw [h.len]; exact ha.1) (by rw [h.rows _ ha.1]; exact Nat.le_refl _)]
    by_cases hc : a.seg = i
    · rw [if_pos ⟨hc, hk⟩, if_neg (fun e => by have := e.2; omega), if_pos ⟨hc, by omega⟩]
    · rw [if_neg (fun e => hc e.1), if_neg (fun e => hc e.1), if_neg (fun e => hc e.1)]
theorem doAll_at {n pp : Nat} (hpp : pp ≤ 64) (fates : List Int) (i k : Nat) (hi : i < n) (hk : k < pp) : ∀ (L : List FlaM.Act) (safe : List (List Bs)) (m : Nat), Shape safe n pp → (∀ a ∈ L, a.seg < n ∧ ((0 ≤ a.page ∧ a.page < (pp : Int) ∧ a.b.length = 128) ∨ (a.page = -1 ∧ a.b = []))) → (∀ j, j < L.length → fates.getD (m + j) 0 = 128) →
    pageAt (doAll pp fates safe m L) i k = (nowR L.reverse i k).getD (pageAt safe i k)
  | [], _, _, _, _, _ => rfl
  | a :: L, safe, m, h, ha, hf => by
    have h0 : fates.getD m 0 = 128 := hf 0 (Nat.zero_lt_succ _)
    show pageAt (doAll pp fates (doOne pp safe a (fates.getD m 0)) (m + 1) L) i k = _
    rw [h0, doAll_at hpp fates i k hi hk L _ (m + 1) (shape_one h a (ha a (List.mem_cons_self ..)) _) (fun x hx => ha x (List.mem_cons_of_mem _ hx)) (fun j hj => by have := hf (j + 1) (Nat.succ_lt_succ hj); rw [show m + 1 + j = m + (j + 1) from by omega]; exact this),
      doOne_at h hpp a (ha a (List.mem_cons_self ..)) i k hi hk, List.reverse_cons, nowR_app]
    cases hx : nowR L.reverse i k with
    | some b => rfl
    | none =>
      show oneAt a i k _ = (nowR [a] i k).getD _
      rw [nowR_one]
theorem now_trip (s : FS) (i k : Nat) : now (trip s) i k = now s i k := by
  obtain ⟨e1, e2, _⟩ := trip_safe s
  unfold now
  rw [e1, e2]
theorem now_snoc (s : FS) (a : FlaM.Act) (i k : Nat) : now { s with L := s.L ++ [a] } i k = oneAt a i k (now s i k) := by
  unfold now
  simp only [List.reverse_append, List.reverse_cons, List.reverse_nil, List.nil_append]
  rw [nowR_app i k s.L.reverse [a]]
  unfold oneAt
  simp only [nowR]
  by_cases h1 : a.seg = i ∧ a.page = (k : Int)
  · rw [if_pos h1, if_pos h1]; rfl
  · rw [if_neg h1, if_neg h1]
    by_cases h2 : a.seg = i ∧ a.page < 0
    · rw [if_pos h2, if_pos h2]; rfl
    · rw [if_neg h2, if_neg h2]
theorem now_barrier {s : FS} {n pp N : Nat} (ok : Ok s N) (hs : Size s n pp) (i k : Nat) (hi : i < n) (hk : k < pp) (h : (barrier s).2 = 0) : now (barrier s).1 i k = now s i k := by
  unfold barrier at h ⊢
  split
  · rename_i ho; rw [if_pos ho] at h; cases h
  · have g := ok_trip ok
    obtain ⟨e1, e2⟩ := size_trip hs
    show (nowR [] i k).getD (pageAt (doAll (trip s).pp (List.replicate (trip s).L.length 128) (trip s).safe 0 (trip s).L) i k) = _
    show pageAt (doAll (trip s).pp (List.replicate (trip s).L.length 128) (trip s).safe 0 (trip s).L) i k = _
    rw [doAll_at (n := (trip s).safe.length) g.pp.2 _ i k (by omega) (by omega) _ _ 0 g.shape g.acts (fun j hj => by rw [Nat.zero_add]; simp [List.getD, List.getElem?_replicate, hj])]
    exact now_trip s i k
theorem prog_le (s : FS) (seg page : Int) (b : Bs) : (progF s seg page b).2 = 0 → there s seg page = true ∧ progF s seg page b = (okd { trip s with L := (trip s).L ++ [⟨seg.toNat, page, b⟩] }, 0) := by
  unfold progF
  split
  · intro h; cases h
  rename_i hx
  split
  · intro h; cases h
  split
  · intro h; cases h
  split
  · intro h; cases h
  refine fun _ => ⟨?_, rfl⟩
  cases hx2 : there s seg page with
  | true => rfl
  | false => exact absurd (Or.inl hx2) hx
/-- a page behind an act that was OK -/
theorem now_act {s : FS} {n pp N : Nat} (ok : Ok s N) (hs : Size s n pp) (a : ActD) (hk2 : a.kind.toNat % 6 ≤ 2) (h : (doAct s a).2 = 0) (i k : Nat) (hi : i < n) (hk : k < pp) :
    now (doAct s a).1 i k = if a.kind.toNat % 6 = 0 ∧ a.seg = (i : Int) ∧ a.page = (k : Int) then bytesOf a else if a.kind.toNat % 6 = 1 ∧ a.seg = (i : Int) then FlaM.blank else now s i k := by
  have h3 : a.kind.toNat % 6 = 0 ∨ a.kind.toNat % 6 = 1 ∨ a.kind.toNat % 6 = 2 := by omega
  unfold doAct at h ⊢
  rcases h3 with h0 | h0 | h0 <;> rw [h0] at h <;> rw [h0]
  · rw [if_neg (show ¬ ((0 : Nat) = 1 ∧ a.seg = (i : Int)) from fun e => by cases e.1)]
    obtain ⟨ht, he⟩ := prog_le s a.seg a.page (bytesOf a) h
    obtain ⟨t1, t2, t3, t4⟩ := there_spec ht
    show now (progF s a.seg a.page (bytesOf a)).1 i k = _
    rw [he]
    refine (now_snoc (trip s) ⟨a.seg.toNat, a.page, bytesOf a⟩ i k).trans ?_
    rw [now_trip]
    unfold oneAt
    by_cases hc : a.seg = (i : Int) ∧ a.page = (k : Int)
    · rw [if_pos ⟨by show a.seg.toNat = i; omega, hc.2⟩, if_pos ⟨rfl, hc⟩]
    · rw [if_neg (fun e => hc ⟨by have : a.seg.toNat = i := e.1; omega, e.2⟩), if_neg (fun e => by have : a.page < 0 := e.2; omega), if_neg (fun e => hc e.2)]
  · rw [if_neg (show ¬ ((1 : Nat) = 0 ∧ a.seg = (i : Int) ∧ a.page = (k : Int)) from fun e => by cases e.1)]
    obtain ⟨ht, _, he⟩ := err_le s a.seg h
    obtain ⟨t1, t2, t3, t4⟩ := there_spec ht
    show now (erase s a.seg).1 i k = _
    rw [he]
    refine (now_snoc (trip s) ⟨a.seg.toNat, -1, []⟩ i k).trans ?_
    rw [now_trip]
    unfold oneAt
    rw [if_neg (fun e => by have : (-1 : Int) = (k : Int) := e.2; omega)]
    by_cases hc : a.seg = (i : Int)
    · rw [if_pos ⟨by show a.seg.toNat = i; omega, by show (-1 : Int) < 0; omega⟩, if_pos ⟨rfl, hc⟩]
    · rw [if_neg (fun e => hc (by have : a.seg.toNat = i := e.1; omega)), if_neg (fun e => hc e.2)]
  · rw [if_neg (fun e => by cases e.1), if_neg (fun e => by cases e.1)]
    exact now_barrier ok hs i k hi hk h
/-- where an act was OK, its page is there -/
theorem act_there {s : FS} {n pp : Nat} (hs : Size s n pp) (a : ActD) (h : (doAct s a).2 = 0) :
    (a.kind.toNat % 6 = 0 → ∃ i k : Nat, a.seg = (i : Int) ∧ a.page = (k : Int) ∧ i < n ∧ k < pp) ∧ (a.kind.toNat % 6 = 1 → ∃ i : Nat, a.seg = (i : Int) ∧ i < n) := by
  refine ⟨fun h0 => ?_, fun h1 => ?_⟩
  · unfold doAct at h
    rw [h0] at h
    have h' : (progF s a.seg a.page (bytesOf a)).2 = 0 := h
    unfold progF at h'
    by_cases hx : there s a.seg a.page = false ∨ (bytesOf a).length ≠ 128
    · rw [if_pos hx] at h'; cases h'
    · have ht : there s a.seg a.page = true := by
        cases hx2 : there s a.seg a.page with
        | true => rfl
        | false => exact absurd (Or.inl hx2) hx
      obtain ⟨t1, t2, t3, t4⟩ := there_spec ht
      obtain ⟨i, hi⟩ := Int.eq_ofNat_of_zero_le t1
      obtain ⟨k, hk⟩ := Int.eq_ofNat_of_zero_le t3
      exact ⟨i, k, hi, hk, by rw [hs.1] at t2; omega, by rw [hs.2] at t4; omega⟩
  · unfold doAct at h
    rw [h1] at h
    obtain ⟨ht, _, _⟩ := err_le s a.seg h
    obtain ⟨t1, t2, t3, t4⟩ := there_spec ht
    obtain ⟨i, hi⟩ := Int.eq_ofNat_of_zero_le t1
    exact ⟨i, hi, by rw [hs.1] at t2; omega⟩
/-- a flash that is fresh reads blank -/
theorem now_fresh (n pp i k : Nat) (hi : i < n) (hk : k < pp) : now (fresh n pp) i k = FlaM.blank := by
  show pageAt (List.replicate n (List.replicate pp FlaM.blank)) i k = _
  simp [pageAt, List.getD, List.getElem?_replicate, hi, hk]
/-- no cut, no power off -/
theorem on_act {s : FS} (a : ActD) (hk2 : a.kind.toNat % 6 ≤ 2) (h : s.off = false ∧ s.left = -1) : (doAct s a).1.off = false ∧ (doAct s a).1.left = -1 := by
  have et : trip s = s := by unfold trip; rw [if_neg (by rw [h.2]; decide)]
  have h3 : a.kind.toNat % 6 = 0 ∨ a.kind.toNat % 6 = 1 ∨ a.kind.toNat % 6 = 2 := by omega
  unfold doAct
  rcases h3 with h0 | h0 | h0 <;> rw [h0]
  · show (progF s a.seg a.page (bytesOf a)).1.off = false ∧ (progF s a.seg a.page (bytesOf a)).1.left = -1
    unfold progF
    rw [et]
    split
    · exact h
    split
    · exact h
    split
    · exact h
    exact ⟨h.1, by show (if 0 < s.left then s.left - 1 else s.left) = -1; rw [h.2]; rfl⟩
  · show (erase s a.seg).1.off = false ∧ (erase s a.seg).1.left = -1
    unfold erase
    rw [et]
    split
    · exact h
    by_cases ho : s.off = true
    · rw [if_pos ho]; exact h
    · rw [if_neg ho]
      exact ⟨h.1, by show (if 0 < s.left then s.left - 1 else s.left) = -1; rw [h.2]; rfl⟩
  · show (barrier s).1.off = false ∧ (barrier s).1.left = -1
    unfold barrier
    rw [et]
    by_cases ho : s.off = true
    · rw [if_pos ho]; exact h
    · rw [if_neg ho]
      exact ⟨h.1, by show (if 0 < s.left then s.left - 1 else s.left) = -1; rw [h.2]; rfl⟩
end Fla
end Go.Proofs.Ytepllhfofhehaaa
