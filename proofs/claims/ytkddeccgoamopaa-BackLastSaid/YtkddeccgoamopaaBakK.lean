/- Layer 8: ten blocks as a table of words; what an act makes of a block as it is now; a round's act. -/
import Derived.Test.YtkddeccgoamopaaBakS
import Derived.Test.YtkddeccgoamopaaBakM
import Derived.Test.YtkddeccgoamopaaGri
namespace Go.Proofs.Ytkddeccgoamopaa
open Go.RowKit Go.Own
namespace Bak
open Go.BakM Byt

abbrev strW (b : Bs) : Value := .string (strB b)
/-- the table's cells -/
def rowB (g : Nat → Bs) : List Value := (List.range 10).map (fun t => strW (g t))
def putB (g : Nat → Bs) (i : Nat) (b : Bs) : Nat → Bs := fun j => if j = i then b else g j
theorem rowB_len (g : Nat → Bs) : (rowB g).length = 10 := by simp [rowB]
theorem rowB_at (g : Nat → Bs) {i : Nat} (hi : i < 10) : (rowB g)[i]? = some (strW (g i)) := by
  unfold rowB
  rw [List.getElem?_map, List.getElem?_range hi]; rfl
theorem rowB_congr {g g' : Nat → Bs} (h : ∀ i, i < 10 → g i = g' i) : rowB g = rowB g' := by
  unfold rowB
  apply List.map_congr_left
  intro t ht
  rw [h t (List.mem_range.1 ht)]
theorem rowB_set (g : Nat → Bs) {i : Nat} (b : Bs) : (rowB g).set i (strW b) = rowB (putB g i b) := by
  apply List.ext_getElem?
  intro t
  by_cases h : t < 10
  · by_cases e : i = t
    · subst e
      rw [List.getElem?_set_self (by rw [rowB_len]; exact h), rowB_at _ h]
      unfold putB
      rw [if_pos rfl]
    · rw [List.getElem?_set_ne e, rowB_at _ h, rowB_at _ h]
      unfold putB
      rw [if_neg (fun x => e x.symm)]
  · rw [List.getElem?_eq_none (by rw [List.length_set, rowB_len]; omega), List.getElem?_eq_none (by rw [rowB_len]; omega)]
def fillB (m : Nat) : Nat → Bs := fun i => if i < m then BakM.blank else []
theorem rowB_zero : List.replicate 10 (strW []) = rowB (fillB 0) := by rfl
theorem fillB_next (i : Nat) : rowB (putB (fillB i) i BakM.blank) = rowB (fillB (i + 1)) := by
  apply rowB_congr
  intro j hj
  unfold putB fillB
  by_cases e : j = i
  · rw [if_pos e, if_pos (by omega)]
  · rw [if_neg e]
    by_cases h : j < i
    · rw [if_pos h, if_pos (by omega)]
    · rw [if_neg h, if_neg (by omega)]
theorem now_fresh (n i : Nat) (h : i < n) : now (fresh n) i = BakM.blank := by
  show (List.replicate n BakM.blank).getD i [] = _
  rw [List.getD_eq_getElem?_getD, List.getElem?_replicate, if_pos h]; rfl
theorem fillB_all : rowB (fillB 10) = rowB (now (fresh 10)) := by
  apply rowB_congr
  intro i hi
  unfold fillB
  rw [if_pos hi, now_fresh 10 i hi]

/-- the power is on, and does not go off by itself -/
structure Lit10 (s : DS) : Prop where
  len : s.safe.length = 10
  off : s.off = false
  left : s.left = -1
theorem lit_fresh : Lit10 (fresh 10) := ⟨by show (List.replicate 10 BakM.blank).length = 10; exact List.length_replicate .., rfl, rfl⟩
theorem Lit10.trip {s : DS} (h : Lit10 s) : trip s = s := by unfold BakM.trip; rw [if_neg (by rw [h.left]; decide)]
theorem Lit10.write {s : DS} (h : Lit10 s) (i : Int) (b : Bs) : write s i b = if there s i = false ∨ b.length ≠ 256 then (s, 1) else ({ s with L := s.L ++ [(⟨i.toNat, b⟩ : BakM.Put)], n := s.n + 1 }, 0) := by
  unfold BakM.write
  by_cases hx : there s i = false ∨ b.length ≠ 256
  · rw [if_pos hx, if_pos hx]
  · rw [if_neg hx, if_neg hx, h.trip, if_neg (by rw [h.off]; simp)]
    unfold okd
    show ({ s with L := s.L ++ [(⟨i.toNat, b⟩ : BakM.Put)], n := s.n + 1, left := if 0 < s.left then s.left - 1 else s.left }, 0) = _
    rw [if_neg (by rw [h.left]; decide)]
theorem Lit10.barrier {s : DS} (h : Lit10 s) : barrier s = ({ some' s full with n := s.n + 1 }, 0) := by
  unfold BakM.barrier
  rw [h.trip, if_neg (by rw [h.off]; simp)]
  unfold okd
  show ({ some' s full with n := s.n + 1, left := if 0 < s.left then s.left - 1 else s.left }, 0) = _
  rw [if_neg (by rw [h.left]; decide)]
  rfl
/-- an act that is a write or a barrier: what comes of it -/
theorem lit_act {s : DS} {N : Nat} (ok : Ok s N) (h : Lit10 s) (a : ActD) (hk : a.kind.toNat % 5 ≤ 1) :
    Lit10 (doAct s a).1 ∧ (((doAct s a).2 = 1 ∧ ∀ i, now (doAct s a).1 i = now s i) ∨
      ((doAct s a).2 = 0 ∧ a.kind.toNat % 5 = 1 ∧ ∀ i, now (doAct s a).1 i = now s i) ∨
      ((doAct s a).2 = 0 ∧ a.kind.toNat % 5 = 0 ∧ ∃ p : Nat, a.pos = (p : Int) ∧ p < 10 ∧ ∀ i, now (doAct s a).1 i = putB (now s) p (bytesOf a) i)) := by
  have hr : a.kind.toNat % 5 = 0 ∨ a.kind.toNat % 5 = 1 := by omega
  rcases hr with hr | hr
  · have e : doAct s a = write s a.pos (bytesOf a) := by unfold doAct; rw [hr]; rfl
    rw [e, h.write]
    by_cases hx : there s a.pos = false ∨ (bytesOf a).length ≠ 256
    · rw [if_pos hx]
      exact ⟨h, .inl ⟨rfl, fun _ => rfl⟩⟩
    · rw [if_neg hx]
      refine ⟨⟨h.len, h.off, h.left⟩, .inr (.inr ⟨rfl, hr, ?_⟩)⟩
      have ht : 0 ≤ a.pos ∧ a.pos < (s.safe.length : Int) := by
        cases e2 : there s a.pos with
        | false => exact absurd (Or.inl e2) hx
        | true => simpa [there] using e2
      obtain ⟨p, hp⟩ := Int.eq_ofNat_of_zero_le ht.1
      have hl := h.len
      refine ⟨p, hp, by omega, fun i => ?_⟩
      show (nowR (s.L ++ [(⟨a.pos.toNat, bytesOf a⟩ : BakM.Put)]).reverse i).getD (s.safe.getD i []) = _
      rw [nowR_snoc, hp]
      unfold putB
      show (if p = i then _ else _) = _
      by_cases hpi : p = i
      · rw [if_pos hpi, if_pos hpi.symm]
      · rw [if_neg hpi, if_neg (fun x => hpi x.symm)]; rfl
  · have e : doAct s a = barrier s := by unfold doAct; rw [hr]; rfl
    have hb : (barrier s).2 = 0 := by rw [h.barrier]
    have sh := shape_all full s.L s.safe 0 ok.shape ok.puts
    rw [e]
    refine ⟨?_, .inr (.inl ⟨hb, hr, fun i => (now_barrier ok hb i).1⟩)⟩
    rw [h.barrier]
    exact ⟨by show (doAll full s.safe 0 s.L).length = 10; rw [sh.len, h.len], h.off, h.left⟩

abbrev zeroAct : List Value := [.int .u8 0, .int .i64 0, .int .i64 0, .int .u8 0, .bool false, .int .u64 0]
/-- the round's act: what is there of it, and its copy -/
structure RoundAct (B : Nat) (w0 wr : World) (Ps : List Asn) (b o : Nat) (a : ActD) (vs : List Value) : Prop where
  vs_ : vs = actVs a
  range : wr.rangeAt b o vs
  there : (wr.alloc (.cells zeroAct.toArray 34)).there wr.heap.size 0 vs.toArray.size
  st : Own.St B w0 ((wr.alloc (.cells zeroAct.toArray 34)).setCells wr.heap.size 0 vs.toArray.toList) (AVals wr.heap.size 34 vs :: Ps)
  fits : a.Fits
  info : (Try.prog.info? 34).map (·.size) = some vs.length
  info2 : (Try.prog.info? 34).map (·.size) = some vs.toArray.size
  one : vs.toArray.all (·.oneCell') = true
  len : vs.length = 6
theorem round_act {B : Nat} {w0 wr : World} {Ps : List Asn} {b o : Nat} {a : ActD} (H : Own.St B w0 wr Ps) (h : ActAt wr b o a) : ∃ vs, RoundAct B w0 wr Ps b o a vs := by
  obtain ⟨c0, c1, c2, c3, c4, c5, hf⟩ := h
  have hl : (actVs a).length = 6 := rfl
  have hi : (Try.prog.info? 34).map (·.size) = some 6 := by kernel_rfl
  have hz := H.boxV 34 zeroAct
  refine ⟨_, rfl, ?_, ?_, ?_, hf, hi, hi, all_oneCell_toArray (fun v hv => by simp only [List.mem_cons, List.not_mem_nil, or_false] at hv; rcases hv with rfl | rfl | rfl | rfl | rfl | rfl <;> rfl), hl⟩
  · intro j v hv
    match j, hv with
    | 0, hv => cases hv; rw [Nat.add_zero]; exact c0
    | 1, hv => cases hv; exact c1
    | 2, hv => cases hv; exact c2
    | 3, hv => cases hv; exact c3
    | 4, hv => cases hv; exact c4
    | 5, hv => cases hv; exact c5
  · exact hz.thereV 0 rfl (Nat.le_refl 6)
  · have := Own.St.setAll 0 (actVs a) 0 _ _ zeroAct hz rfl rfl
    simpa using this
theorem new10 {W w : World} (K : Kept W) (hW : Below W.heap.size W w) {B : Nat} {w0 : World} {Ps : List Asn} (H : Own.St B w0 w Ps) : Calls Try.prog 9 #[.int .i64 10] w fun e w' => ∃ p, e = .returned (.tuple #[qtr p, .int .i64 0]) ∧ Own.St B w0 w' (K.A p (fresh 10) :: Ps) := by
  refine (K.new 10 hW H (by decide)).mono ?_
  intro e w' h
  rw [if_pos (by decide)] at h
  exact h
theorem ok10 : Ok (fresh 10) 0 := ok_fresh 10 (by decide)
theorem idxB {o : Oper} {x y : Tmp} (ho : o.op = .indexAddr 52 (.tmp x) (.tmp y)) {i : Nat} (hi : i < 10) (b : Nat) (ρ : Operand → Value) (w : World) (h0 : ρ (.tmp x) = .pointer (some ⟨b, 0, none⟩)) (h1 : ρ (.tmp y) = .int .i64 (i : Int)) : (execOp ρ o).run Try.prog w = .ok (.value (.pointer (some ⟨b, i, none⟩))) w := by
  have hi' : (i : Int) < 10 := by omega
  simp [execOp, ho, h0, h1, go_sem, hi, hi']
theorem load_st {o : Oper} {x : Tmp} (ho : o.op = .load 9 (.tmp x)) {ad : Addr} {v : List UInt8} {w : World} (hc : w.cell? ad = some (.string (strB v))) {ρ : Operand → Value} (h0 : ρ (.tmp x) = .pointer (some ad)) : (execOp ρ o).run Try.prog w = .ok (.value (.string (strB v))) w := by
  simp [execOp, ho, h0, go_sem, hc]
theorem bytes_ty (a : ActD) (wx : World) : Calls Try.prog 24 #[.agg (actVs a).toArray] wx fun e w' => ∃ v, e = .returned v ∧ (tyG (bytesOf a)).holds v w' ∧ Below wx.heap.size wx w' := by
  refine (bytes_any a (Own.St.start wx)).mono ?_
  rintro e w' ⟨g, rfl, h⟩
  have hg := (lies_part (h.rowFresh (e := 9) (size := 1)) (k := gapOf a) (Nat.le_trans (gap_le a) (by decide))).given
  have hl : (bytesOf a).length = 256 - gapOf a := List.length_replicate ..
  exact ⟨_, rfl, ⟨some ⟨g, gapOf a, none⟩, 256 - gapOf a, by rw [hl], by rw [hl]; exact hg⟩, h.below⟩
end Bak
end Go.Proofs.Ytkddeccgoamopaa
