/- Layer 8: behind a cut: what an act comes to. -/
import Derived.Test.YtkddeccgoamopaaBakK
import Derived.Test.YtkddeccgoamopaaArr
namespace Go.Proofs.Ytkddeccgoamopaa
open Go.RowKit Go.Own
namespace Bak
open Go.BakM Byt

structure CutI (s : DS) (n : Nat) : Prop where
  len : s.safe.length = 10
  le : s.n ≤ n
  or : (s.off = false ∧ s.left = (n : Int) - (s.n : Int)) ∨ (s.off = true ∧ s.n = n ∧ s.left = -1)
theorem cuti_fresh (n : Nat) : CutI (cut (fresh 10) (n : Int)) n := by
  have e : cut (fresh 10) (n : Int) = { fresh 10 with left := max (n : Int) (-1) } := rfl
  rw [e]
  refine ⟨lit_fresh.len, Nat.zero_le _, .inl ⟨rfl, ?_⟩⟩
  show max (n : Int) (-1) = (n : Int) - ((0 : Nat) : Int)
  omega
theorem cuti_trip {s : DS} {n : Nat} (h : CutI s n) : (trip s = s ∧ s.off = false ∧ 0 < s.left ∧ s.left = (n : Int) - (s.n : Int)) ∨ ((trip s).off = true ∧ (trip s).left = -1 ∧ s.n = n) := by
  unfold trip
  rcases h.or with ⟨h1, h2⟩ | ⟨h1, h2, h3⟩
  · by_cases hl : s.left = 0
    · rw [if_pos hl]
      exact .inr ⟨rfl, rfl, by have := h.le; omega⟩
    · rw [if_neg hl]
      exact .inl ⟨rfl, h1, by have := h.le; omega, h2⟩
  · rw [if_neg (by rw [h3]; decide)]
    exact .inr ⟨h1, h3, h2⟩
/-- what an act that is a write or a barrier comes to -/
theorem cut_act {s : DS} {N n : Nat} (ok : Ok s N) (h : CutI s n) (a : ActD) (hk : a.kind.toNat % 5 ≤ 1) :
    CutI (doAct s a).1 n ∧ (((doAct s a).2 = 1 ∧ (doAct s a).1.n = s.n ∧ (∀ i, now (doAct s a).1 i = now s i) ∧ (doAct s a).1.safe = s.safe) ∨
      ((doAct s a).2 = 6 ∧ (doAct s a).1.n = s.n ∧ s.n = n ∧ (doAct s a).1.off = true ∧ (∀ i, now (doAct s a).1 i = now s i) ∧ (doAct s a).1.safe = s.safe) ∨
      ((doAct s a).2 = 0 ∧ (doAct s a).1.n = s.n + 1 ∧ a.kind.toNat % 5 = 1 ∧ (∀ i, now (doAct s a).1 i = now s i) ∧ ∀ i, (doAct s a).1.safe.getD i [] = now s i) ∨
      ((doAct s a).2 = 0 ∧ (doAct s a).1.n = s.n + 1 ∧ a.kind.toNat % 5 = 0 ∧ (∃ p : Nat, a.pos = (p : Int) ∧ p < 10 ∧ ∀ i, now (doAct s a).1 i = putB (now s) p (bytesOf a) i) ∧ (doAct s a).1.safe = s.safe)) := by
  have hr : a.kind.toNat % 5 = 0 ∨ a.kind.toNat % 5 = 1 := by omega
  have T := trip_same s
  have DEAD : (trip s).off = true → (trip s).left = -1 → s.n = n → CutI (trip s) n := fun h1 h2 h3 => ⟨by rw [T.1]; exact h.len, by rw [T.2.2]; exact h.le, .inr ⟨h1, by rw [T.2.2]; exact h3, h2⟩⟩
  have NT : ∀ i, now (trip s) i = now s i := fun i => now_trip s i
  rcases hr with hr | hr
  · have e : doAct s a = write s a.pos (bytesOf a) := by unfold doAct; rw [hr]; rfl
    rw [e]
    by_cases hx : there s a.pos = false ∨ (bytesOf a).length ≠ 256
    · have e1 : write s a.pos (bytesOf a) = (s, 1) := by unfold write; rw [if_pos hx]
      rw [e1]
      exact ⟨h, .inl ⟨rfl, rfl, fun _ => rfl, rfl⟩⟩
    · rcases cuti_trip h with ⟨t1, t2, t3, t4⟩ | ⟨t1, t2, t3⟩
      · have e1 : write s a.pos (bytesOf a) = (okd { s with L := s.L ++ [(⟨a.pos.toNat, bytesOf a⟩ : BakM.Put)] }, 0) := by
          unfold write; rw [if_neg hx, t1, if_neg (by rw [t2]; simp)]
        rw [e1]
        have ht : 0 ≤ a.pos ∧ a.pos < (s.safe.length : Int) := by
          cases e2 : there s a.pos with
          | false => exact absurd (Or.inl e2) hx
          | true => simpa [there] using e2
        obtain ⟨p, hp⟩ := Int.eq_ofNat_of_zero_le ht.1
        have hl := h.len
        refine ⟨⟨h.len, by show s.n + 1 ≤ n; omega, .inl ⟨t2, ?_⟩⟩, .inr (.inr (.inr ⟨rfl, rfl, hr, ⟨p, hp, by omega, fun i => ?_⟩, rfl⟩))⟩
        · show (if 0 < s.left then s.left - 1 else s.left) = (n : Int) - ((s.n + 1 : Nat) : Int)
          rw [if_pos t3]; omega
        · show (nowR (s.L ++ [(⟨a.pos.toNat, bytesOf a⟩ : BakM.Put)]).reverse i).getD (s.safe.getD i []) = _
          rw [nowR_snoc, hp]
          unfold putB
          show (if p = i then _ else _) = _
          by_cases hpi : p = i
          · rw [if_pos hpi, if_pos hpi.symm]
          · rw [if_neg hpi, if_neg (fun x => hpi x.symm)]; rfl
      · have e1 : write s a.pos (bytesOf a) = (trip s, 6) := by unfold write; rw [if_neg hx, if_pos t1]
        rw [e1]
        exact ⟨DEAD t1 t2 t3, .inr (.inl ⟨rfl, T.2.2, t3, t1, NT, T.1⟩)⟩
  · have e : doAct s a = barrier s := by unfold doAct; rw [hr]; rfl
    rw [e]
    rcases cuti_trip h with ⟨t1, t2, t3, t4⟩ | ⟨t1, t2, t3⟩
    · have e1 : barrier s = (okd (some' s full), 0) := by unfold barrier; rw [t1, if_neg (by rw [t2]; simp)]
      have hb : (barrier s).2 = 0 := by rw [e1]
      have sh := shape_all full s.L s.safe 0 ok.shape ok.puts
      have nb := now_barrier ok hb
      rw [e1] at nb ⊢
      refine ⟨⟨by show (doAll full s.safe 0 s.L).length = 10; rw [sh.len, h.len], by show s.n + 1 ≤ n; omega, .inl ⟨t2, ?_⟩⟩, .inr (.inr (.inl ⟨rfl, rfl, hr, fun i => (nb i).1, fun i => (nb i).2⟩))⟩
      show (if 0 < s.left then s.left - 1 else s.left) = (n : Int) - ((s.n + 1 : Nat) : Int)
      rw [if_pos t3]; omega
    · have e1 : barrier s = (trip s, 6) := by unfold barrier; rw [if_pos t1]
      rw [e1]
      exact ⟨DEAD t1 t2 t3, .inr (.inl ⟨rfl, T.2.2, t3, t1, NT, T.1⟩)⟩
theorem bit_zero (i : Nat) : bitOf 0 i = false := by unfold bitOf; simp
theorem doAll_zero : ∀ (L : List BakM.Put) (safe : List Bs) (i : Nat), doAll 0 safe i L = safe
  | [], _, _ => rfl
  | a :: L, safe, i => by unfold doAll; rw [bit_zero, if_neg (by simp), doAll_zero L]
theorem crash_zero (s : DS) (q : Nat) : now (crash s 0) q = s.safe.getD q [] := by
  show (doAll 0 s.safe 0 s.L).getD q [] = _
  rw [doAll_zero]
/-- a table, copied onto another -/
theorem copy_tab {B : Nat} {w0 w : World} {Ps : List Asn} {t : TypeId} {b b2 : Nat} {vs us : List Value} (H : Own.St B w0 w Ps) (i : Nat) (hi : Ps[i]? = some (AVals b t vs)) (j : Nat) (hj : Ps[j]? = some (AVals b2 t us)) (hl : vs.length = us.length) :
    w.rangeAt b 0 vs ∧ w.there b2 0 vs.toArray.size ∧ Own.St B w0 (w.setCells b2 0 vs) (Ps.set j (AVals b2 t vs)) := by
  refine ⟨fun k v hv => by rw [Nat.zero_add]; exact (H.cellV i hi k hv).1, H.thereV j hj (by simp [hl]), ?_⟩
  have := Own.St.setAll j vs 0 _ _ us H hj (by rw [Nat.zero_add]; exact hl)
  simpa using this
end Bak
end Go.Proofs.Ytkddeccgoamopaa
