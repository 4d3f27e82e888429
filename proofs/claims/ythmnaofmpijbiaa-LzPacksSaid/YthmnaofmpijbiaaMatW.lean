/- The landed All: pairs that are made and set, a map of places by heads. -/
import Derived.Test.YthmnaofmpijbiaaMatP
import Derived.Laws.OwnMore
namespace Go.Proofs.Ythmnaofmpijbiaa
open Go.RowKit Go.Own Go.Maps
namespace Mat
open Go.MatM Byt

theorem occ_drop (l h : Bs) (i : Nat) : ∀ (m lo : Nat), i - lo ≤ m → lo ≤ i - 256 → (occ l h lo i).dropWhile (farP i) = occ l h (i - 256) i := by
  intro m
  induction m with
  | zero =>
    intro lo h1 h2
    cases hz : occ l h lo i with
    | nil => exact (occ_none l h lo (i - 256) i hz h2).symm
    | cons z zs => have := (occ_cons l h lo i z zs hz).2; omega
  | succ m ih =>
    intro lo h1 h2
    cases hz : occ l h lo i with
    | nil => exact (occ_none l h lo (i - 256) i hz h2).symm
    | cons z zs =>
      obtain ⟨e, g1, g2⟩ := occ_cons l h lo i z zs hz
      rw [List.dropWhile_cons]
      by_cases hf : z + 256 < i
      · rw [if_pos (show farP i z = true by simp [farP, hf]), e]
        exact ih (z + 1) (by omega) (by omega)
      · rw [if_neg (show ¬ farP i z = true by simp [farP, hf]), ← hz]
        exact occ_near l h lo (i - 256) i z zs hz h2 (by omega)

/-- what the map tells when i places have been seen -/
def FI (l : Bs) (i : Nat) (f : Lit → List Nat) : Prop := ∀ a b c, ∃ lo, lo ≤ i - 256 ∧ f (hdL a b c) = occ l [a, b, c] lo i
theorem FI.zero (l : Bs) : FI l 0 (fun _ => []) := fun a b c => ⟨0, Nat.le_refl _, (occ_empty l [a, b, c] 0).symm⟩
theorem FI.nearby {l : Bs} {i : Nat} {f : Lit → List Nat} (h : FI l i f) : (f (hdL (by' l i) (by' l (i + 1)) (by' l (i + 2)))).dropWhile (farP i) = near l i := by
  obtain ⟨lo, h1, h2⟩ := h (by' l i) (by' l (i + 1)) (by' l (i + 2))
  rw [h2, occ_drop l _ i i lo (by omega) h1]
  rfl
theorem FI.few {l : Bs} {i : Nat} {f : Lit → List Nat} (h : FI l i f) (a b c : UInt8) : (f (hdL a b c)).length ≤ i ∧ ∀ k ∈ f (hdL a b c), k < i := by
  obtain ⟨lo, h1, h2⟩ := h a b c
  rw [h2]
  exact ⟨by have := occ_len l [a, b, c] lo i; omega, fun k hk => ((occ_mem l [a, b, c] lo i k).1 hk).2.1⟩
theorem FI.next {l : Bs} {i : Nat} {f : Lit → List Nat} (h : FI l i f) : FI l (i + 1) (put1 f (hdL (by' l i) (by' l (i + 1)) (by' l (i + 2))) (near l i ++ [i])) := by
  intro a b c
  by_cases e : hdL a b c = hdL (by' l i) (by' l (i + 1)) (by' l (i + 2))
  · obtain ⟨rfl, rfl, rfl⟩ := hdL_inj e
    refine ⟨i - 256, Nat.sub_le_sub_right (Nat.le_succ i) 256, ?_⟩
    rw [put1_same, occ_succ _ _ _ _ (Nat.sub_le _ _)]
    show near l i ++ [i] = occ l (hd l i) (i - 256) i ++ (if hd l i = hd l i then [i] else [])
    rw [if_pos rfl]
    rfl
  · obtain ⟨lo, h1, h2⟩ := h a b c
    refine ⟨lo, Nat.le_trans h1 (Nat.sub_le_sub_right (Nat.le_succ i) 256), ?_⟩
    rw [put1_other e, h2, occ_succ _ _ _ _ (Nat.le_trans h1 (Nat.sub_le _ _)), if_neg, List.append_nil]
    intro e2
    simp only [hd, List.cons.injEq, and_true] at e2
    exact e (by rw [e2.1, e2.2.1, e2.2.2])

/-! ### pairs that are made and set -/
theorem madePairs (n : Nat) : (madeCells (Value.agg #[.int .i64 0, .int .i64 0]).cells (n * 2)).toList = pcells (List.replicate n (0, 0)) := by
  unfold madeCells
  apply List.ext_getElem?
  intro i
  by_cases hi : i < n * 2
  · have hc := pcells_at (List.replicate n (0, 0)) (i / 2) (by simp; omega)
    have hz : (List.replicate n ((0 : Nat), (0 : Nat))).getD (i / 2) (0, 0) = (0, 0) := by rw [List.getD_eq_getElem?_getD, List.getElem?_replicate]; split <;> rfl
    rw [hz] at hc
    have hv : (pcells (List.replicate n (0, 0)))[i]? = some (.int .i64 0) := by
      rcases Nat.mod_two_eq_zero_or_one i with h | h
      · have e : 2 * (i / 2) = i := by omega
        rw [e] at hc; simpa using hc.1
      · have e : 2 * (i / 2) + 1 = i := by omega
        rw [e] at hc; simpa using hc.2
    rw [hv]
    simp [hi, Value.cells]
    rcases Nat.mod_two_eq_zero_or_one i with h | h <;> simp [h]
  · have h2 : (pcells (List.replicate n (0, 0))).length = n * 2 := by rw [pcells_len]; simp
    rw [List.getElem?_eq_none (l := pcells (List.replicate n (0, 0))) (by rw [h2]; omega)]
    simp [hi]
theorem pcells_set (ps : List (Nat × Nat)) : ∀ (j : Nat) (d m : Nat), ((pcells ps).set (2 * j) (.int .i64 (d : Int))).set (2 * j + 1) (.int .i64 (m : Int)) = pcells (ps.set j (d, m)) := by
  induction ps with
  | nil => intro j d m; simp [pcells]
  | cons x ps ih =>
    intro j d m
    have e : ∀ (y : Nat × Nat) qs, pcells (y :: qs) = .int .i64 (y.1 : Int) :: .int .i64 (y.2 : Int) :: pcells qs := fun _ _ => rfl
    cases j with
    | zero => rfl
    | succ j =>
      rw [show 2 * (j + 1) = 2 * j + 1 + 1 by omega]
      simp only [e, List.set_cons_succ, List.set_cons_succ]
      rw [ih]

section
variable {B : Nat} {w0 w : World} {Ps : List Asn}
theorem aq_make (H : St B w0 w Ps) (kl kc : IntKind) (n : Nat) (hn : n ≤ 100000000) :
    ∃ w', (Instr.makeSlice 33 (.int kl (n : Int)) (.int kc (n : Int))).run Try.prog w = .ok (.slice (some ⟨w.heap.size, 0, none⟩) n n) w' ∧ St B w0 w' (AQ (some ⟨w.heap.size, 0, none⟩) n n (List.replicate n (0, 0)) :: Ps) := by
  obtain ⟨i0, hi, hz0, hz1, hz2⟩ := info_parts infoPair
  obtain ⟨w', hr, hown, hg⟩ := run_make_full (P := Try.prog) w 0 33 36 i0 (.agg #[.int .i64 0, .int .i64 0]) 2 Try.underlying33 hi hz0 hz1 kl kc n (by rw [hz2]; omega) (by unfold maxLen; omega) (Nat.zero_le _)
  rw [madePairs] at hown
  refine ⟨w', hr, H.new (S' := fun k => k = w.heap.size) (AQ _ n n _) ⟨hown, fun k => by simp [Value.ownBlock, eq_comm]⟩ ?_⟩
  exact ((Step.refl (fun _ => False) w).grown hg (by intro k hk; cases hk)).to (fun k hk => .inr (Nat.le_of_eq hk.symm))

/-- a pair is set; what lies apart from it stays -/
theorem aq_put {p n cap : Nat} {ps : List (Nat × Nat)} (H : St B w0 w Ps) (i k : Nat) (hik : k ≠ i) (hi : Ps[i]? = some (AQ (some ⟨p, 0, none⟩) n cap ps)) {b m : Nat} {g : Lit → Value} {f : Lit → List Nat} (hk : Ps[k]? = some (AG b m g f)) (j : Nat) (hj : j < n) :
    (∃ u, w.cell? ⟨p, j * 2, none⟩ = some u) ∧ (∃ u, w.cell? ⟨p, j * 2 + 1, none⟩ = some u) ∧ w.frozen? ⟨p, j * 2, none⟩ = false ∧ w.frozen? ⟨p, j * 2 + 1, none⟩ = false ∧
      ∀ d x : Nat, St B w0 ((w.setCell ⟨p, j * 2, none⟩ (.int .i64 (d : Int))).setCell ⟨p, j * 2 + 1, none⟩ (.int .i64 (x : Int))) (Ps.set i (AQ (some ⟨p, 0, none⟩) n cap (ps.set j (d, x)))) ∧
        ∀ v zs kl, Slc w v zs → v.ownBlock = (g kl).ownBlock → Slc ((w.setCell ⟨p, j * 2, none⟩ (.int .i64 (d : Int))).setCell ⟨p, j * 2 + 1, none⟩ (.int .i64 (x : Int))) v zs := by
  obtain ⟨S, Sk, hS, hSk, hdis, _, put⟩ := H.at2 i k hik hi hk
  have hlen := (aq_len H i hi).1
  rw [show j * 2 = 2 * j by omega]
  obtain ⟨hown, hset⟩ := id hS
  rcases hown.2 with ⟨hv, rfl⟩ | ⟨g', cap', cur, hv, h0, hb, hnc, hcm, hcs, htake⟩
  · omega
  · simp only [Value.slice.injEq, true_and, Option.some.injEq, Addr.mk.injEq, and_true] at hv
    obtain ⟨rfl, rfl⟩ := hv
    have l0 : 2 * j < cur.size := by omega
    have l1 : 2 * j + 1 < cur.size := by omega
    refine ⟨⟨_, cell_of_block hb (Array.getElem?_eq_getElem l0)⟩, ⟨_, cell_of_block hb (Array.getElem?_eq_getElem l1)⟩, frozen_of_block hb, frozen_of_block hb, fun d x => ?_⟩
    have hst : Step S S w ((w.setCell ⟨p, 2 * j, none⟩ (.int .i64 (d : Int))).setCell ⟨p, 2 * j + 1, none⟩ (.int .i64 (x : Int))) :=
      ((Step.refl S w).setCell (a := ⟨p, 2 * j, none⟩) (Or.inl ((hset p).2 rfl)) _).setCell (a := ⟨p, 2 * j + 1, none⟩) (Or.inl ((hset p).2 rfl)) _
    refine ⟨put S _ (AQ (some ⟨p, 0, none⟩) n cap (ps.set j (d, x))) ?_ hst, fun v zs kl hs hvb => hs.step hst (fun q hq => hdis q ((hSk.2.2.2.2 q).2 (.inr ⟨kl, by rw [← hvb]; exact hq⟩)))⟩
    have h1 := (hown.stored (2 * j) (.int .i64 (d : Int))).1
    have h2 := (h1.stored (2 * j + 1) (.int .i64 (x : Int))).1
    rw [pcells_set] at h2
    exact ⟨h2, hset⟩
end
end Mat
end Go.Proofs.Ythmnaofmpijbiaa
