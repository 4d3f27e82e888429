/- Layer 7: a flash of two segments of three pages, torn (FlashTorn). -/
import Derived.Test.YtepllhfofhehaaaFlaG
namespace Go.Proofs.Ytepllhfofhehaaa
open Go.RowKit Go.Own
namespace Fla
open Go.FlaM Byt

/-- it is on, of this size -/
structure On3 (s : FS) (N : Nat) : Prop where
  ok : Ok s N
  size : Size s 2 3
  off : s.off = false
  left : s.left = -1
theorem On3.trip {s : FS} {N : Nat} (h : On3 s N) : trip s = s := by unfold FlaM.trip; rw [if_neg (by rw [h.left]; decide)]
theorem on3_fresh : On3 (fresh 2 3) 0 := ⟨ok_fresh 2 3 (by decide) (by decide), ⟨rfl, rfl⟩, rfl, rfl⟩
theorem read_on {s : FS} {N : Nat} (h : On3 s N) {i k : Nat} (hi : i < 2) (hk : k < 3) : FlaM.read s (i : Int) (k : Int) = (now s i k, 0) := by
  rw [read_at h.size hi hk, if_neg (by rw [h.off]; decide)]
theorem okd_on {s : FS} (h : s.left = -1) : (okd s).left = -1 := by
  show (if 0 < s.left then s.left - 1 else s.left) = -1
  rw [h]; rfl
theorem prog_step {s : FS} {N : Nat} (h : On3 s N) {i k : Nat} (hi : i < 2) (hk : k < 3) (b : Bs) (hb : b.length = 128) (hn : now s i k = FlaM.blank) :
    (progF s (i : Int) (k : Int) b).2 = 0 ∧ On3 (progF s (i : Int) (k : Int) b).1 (N + 1) ∧ (progF s (i : Int) (k : Int) b).1.L = s.L ++ [⟨i, (k : Int), b⟩] ∧ (progF s (i : Int) (k : Int) b).1.safe = s.safe ∧
      ∀ i' k' : Nat, now (progF s (i : Int) (k : Int) b).1 i' k' = if i = i' ∧ k = k' then b else now s i' k' := by
  have e : progF s (i : Int) (k : Int) b = (okd { s with L := s.L ++ [⟨i, (k : Int), b⟩] }, 0) := by
    unfold progF
    rw [if_neg (by rintro (e | e); · rw [there_at h.size hi hk] at e; cases e
                   · exact e hb), if_neg (by rw [h.off]; decide), Int.toNat_natCast, Int.toNat_natCast, if_neg (fun e => e hn), h.trip, if_neg (by rw [h.off]; decide)]
  have ho := ok_program h.ok (i : Int) (k : Int) b
  rw [e] at ho ⊢
  refine ⟨rfl, ⟨ho, h.size, h.off, okd_on h.left⟩, rfl, rfl, fun i' k' => ?_⟩
  refine (now_snoc s ⟨i, (k : Int), b⟩ i' k').trans ?_
  unfold oneAt
  by_cases hc : i = i' ∧ k = k'
  · rw [if_pos ⟨hc.1, by show (k : Int) = (k' : Int); rw [hc.2]⟩, if_pos hc]
  · rw [if_neg (fun e => hc ⟨e.1, by have : (k : Int) = (k' : Int) := e.2; omega⟩), if_neg (fun e => by have : (k : Int) < 0 := e.2; omega), if_neg hc]
theorem erase_step {s : FS} {N : Nat} (h : On3 s N) {i : Nat} (hi : i < 2) :
    (erase s (i : Int)).2 = 0 ∧ On3 (erase s (i : Int)).1 (N + 1) ∧ (erase s (i : Int)).1.L = s.L ++ [⟨i, -1, []⟩] ∧ (erase s (i : Int)).1.safe = s.safe ∧
      ∀ i' k' : Nat, now (erase s (i : Int)).1 i' k' = if i = i' then FlaM.blank else now s i' k' := by
  have ht : there s (i : Int) 0 = true := there_at (k := 0) h.size hi (by omega)
  have e : erase s (i : Int) = (okd { s with L := s.L ++ [⟨i, -1, []⟩], wear := bump s.wear i }, 0) := by
    unfold erase
    rw [if_neg (by rw [ht]; decide), h.trip, if_neg (by rw [h.off]; decide), Int.toNat_natCast]
  have ho := ok_erase h.ok (i : Int)
  rw [e] at ho ⊢
  refine ⟨rfl, ⟨ho, h.size, h.off, okd_on h.left⟩, rfl, rfl, fun i' k' => ?_⟩
  refine (now_snoc s ⟨i, -1, []⟩ i' k').trans ?_
  unfold oneAt
  rw [if_neg (fun e => by have : (-1 : Int) = (k' : Int) := e.2; omega)]
  by_cases hc : i = i'
  · rw [if_pos ⟨hc, by show (-1 : Int) < 0; omega⟩, if_pos hc]
  · rw [if_neg (fun e => hc e.1), if_neg hc]
theorem barrier_step {s : FS} {N : Nat} (h : On3 s N) :
    (barrier s).2 = 0 ∧ On3 (barrier s).1 (N + 1) ∧ (barrier s).1.L = [] ∧ ∀ i k : Nat, i < 2 → k < 3 → now (barrier s).1 i k = now s i k := by
  have e0 : (barrier s).2 = 0 := by unfold barrier; rw [h.trip, if_neg (by rw [h.off]; decide)]
  have hn := fun i k hi hk => now_barrier h.ok h.size i k hi hk e0
  have e : barrier s = (okd (some' s (List.replicate s.L.length 128)), 0) := by
    unfold barrier
    rw [h.trip, if_neg (by rw [h.off]; decide)]
  have ho := ok_barrier h.ok
  have hz := size_some h.ok h.size (List.replicate s.L.length 128)
  refine ⟨e0, ?_, by rw [e]; rfl, hn⟩
  rw [e] at ho ⊢
  exact ⟨ho, hz, h.off, okd_on h.left⟩
theorem crash_one {s : FS} {N : Nat} (h : On3 s N) (f : Int) (a : FlaM.Act) (hL : s.L = [a]) :
    On3 (crash s [f]) N ∧ (crash s [f]).L = [] ∧ ∀ i k : Nat, now (crash s [f]) i k = pageAt (doOne 3 s.safe a f) i k := by
  have ho := ok_crash h.ok [f]
  have hz := size_some h.ok h.size [f]
  refine ⟨⟨ho, hz, rfl, rfl⟩, rfl, fun i k => ?_⟩
  show pageAt (doAll s.pp [f] s.safe 0 s.L) i k = _
  rw [hL, h.size.2]
  rfl
/-- what a fate makes of a page, of a segment -/
def torn (x : Bs) (f : Int) : Bs := x.take (min f.toNat 128) ++ FlaM.blank.drop (min f.toNat 128)
theorem torn_page {s : FS} {N : Nat} (h : On3 s N) (x : Bs) (f : Int) (hp : pageAt s.safe 1 1 = FlaM.blank) : pageAt (doOne 3 s.safe ⟨1, 1, x⟩ f) 1 1 = torn x f := by
  unfold doOne
  rw [if_pos (by show (0 : Int) ≤ 1; decide)]
  show pageAt (setPage s.safe 1 1 _) 1 1 = _
  rw [setPage_at _ _ _ _ _ _ (by rw [h.size.1]; decide) (by rw [h.ok.rows 1 (by rw [h.size.1]; decide), h.size.2]; decide), if_pos ⟨rfl, rfl⟩]
  show x.take _ ++ (pageAt s.safe 1 1).drop _ = _
  rw [hp]
  rfl
theorem torn_seg {s : FS} {N : Nat} (h : On3 s N) (f : Int) (k : Nat) (hk : k < 3) : pageAt (doOne 3 s.safe ⟨1, -1, []⟩ f) 1 k = if (k : Int) < f then FlaM.blank else pageAt s.safe 1 k := by
  unfold doOne
  rw [if_neg (by show ¬ (0 : Int) ≤ -1; decide)]
  show pageAt (clearTo s.safe 1 (min f.toNat 3)) 1 k = _
  rw [clearTo_at _ _ _ _ _ (by rw [h.size.1]; decide) (by rw [h.ok.rows 1 (by rw [h.size.1]; decide), h.size.2]; omega)]
  by_cases hf : (k : Int) < f
  · rw [if_pos ⟨rfl, by omega⟩, if_pos hf]
  · rw [if_neg (fun e => hf (by have := e.2; omega)), if_neg hf]
theorem now_quiet {s : FS} (h : s.L = []) (i k : Nat) : now s i k = pageAt s.safe i k := by
  unfold now
  rw [h]
  rfl
end Fla
end Go.Proofs.Ytepllhfofhehaaa
