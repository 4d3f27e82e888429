/- Layer 7: the table of pages of FlashLast, [4][4]string. -/
import Derived.Test.YtepllhfofhehaaaFlaK
import Derived.Test.YtepllhfofhehaaaLawFlaC
namespace Go.Proofs.Ytepllhfofhehaaa
open Go.RowKit Go.Own
namespace Fla
open Go.FlaM Byt

/-- the table's cells, row by row -/
def gridV (g : Nat → Nat → Bs) : List Value := (List.range 16).map (fun t => .string (strB (g (t / 4) (t % 4))))
def putG (g : Nat → Nat → Bs) (i k : Nat) (b : Bs) : Nat → Nat → Bs := fun i' k' => if i' = i ∧ k' = k then b else g i' k'
theorem gridV_len (g : Nat → Nat → Bs) : (gridV g).length = 16 := by simp [gridV]
theorem gridV_at (g : Nat → Nat → Bs) {i k : Nat} (hi : i < 4) (hk : k < 4) : (gridV g)[i * 4 + k]? = some (.string (strB (g i k))) := by
  unfold gridV
  rw [List.getElem?_map, List.getElem?_range (by omega)]
  show some (Value.string (strB (g ((i * 4 + k) / 4) ((i * 4 + k) % 4)))) = _
  rw [show (i * 4 + k) / 4 = i from by omega, show (i * 4 + k) % 4 = k from by omega]
theorem gridV_set (g : Nat → Nat → Bs) {i k : Nat} (_hi : i < 4) (hk : k < 4) (b : Bs) : (gridV g).set (i * 4 + k) (.string (strB b)) = gridV (putG g i k b) := by
  apply List.ext_getElem?
  intro t
  by_cases h : t < 16
  · by_cases e : i * 4 + k = t
    · subst e
      rw [List.getElem?_set_self (by rw [gridV_len]; exact h)]
      unfold gridV
      rw [List.getElem?_map, List.getElem?_range h]
      show _ = some (Value.string (strB (putG g i k b ((i * 4 + k) / 4) ((i * 4 + k) % 4))))
      rw [show (i * 4 + k) / 4 = i from by omega, show (i * 4 + k) % 4 = k from by omega]
      unfold putG
      rw [if_pos ⟨rfl, rfl⟩]
    · rw [List.getElem?_set_ne e]
      unfold gridV
      rw [List.getElem?_map, List.getElem?_map, List.getElem?_range h]
      show some (Value.string (strB (g (t / 4) (t % 4)))) = some (Value.string (strB (putG g i k b (t / 4) (t % 4))))
      unfold putG
      rw [if_neg (fun hh => e (by have := hh.1; have := hh.2; omega))]
  · rw [List.getElem?_eq_none (by rw [List.length_set, gridV_len]; omega), List.getElem?_eq_none (by rw [gridV_len]; omega)]
theorem gridV_congr {g g' : Nat → Nat → Bs} (h : ∀ i k, i < 4 → k < 4 → g i k = g' i k) : gridV g = gridV g' := by
  unfold gridV
  apply List.map_congr_left
  intro t ht
  have := List.mem_range.1 ht
  rw [h (t / 4) (t % 4) (by omega) (by omega)]
theorem gridV_zero : List.replicate 16 (Value.string (strB [])) = gridV (fun _ _ => []) := by rfl
/-- the table, filled up to a cell -/
def fillG (m : Nat) : Nat → Nat → Bs := fun i k => if i * 4 + k < m then FlaM.blank else []
theorem fillG_next {i k : Nat} (hi : i < 4) (hk : k < 4) : gridV (putG (fillG (i * 4 + k)) i k FlaM.blank) = gridV (fillG (i * 4 + (k + 1))) := by
  apply gridV_congr
  intro i' k' hi' hk'
  unfold putG fillG
  by_cases e : i' = i ∧ k' = k
  · rw [if_pos e, if_pos (by have := e.1; have := e.2; subst_vars; omega)]
  · rw [if_neg e]
    by_cases h : i' * 4 + k' < i * 4 + k
    · rw [if_pos h, if_pos (by omega)]
    · rw [if_neg h, if_neg (fun hh => e (by constructor <;> omega))]
theorem fillG_all : gridV (fillG 16) = gridV (fun i k => now (fresh 4 4) i k) := by
  apply gridV_congr
  intro i k hi hk
  unfold fillG
  rw [if_pos (by omega)]
  exact (now_fresh 4 4 i k hi hk).symm
/-- what a round makes of the table, its first m pages done -/
def stepG (a : ActD) (m : Nat) (g : Nat → Nat → Bs) : Nat → Nat → Bs := fun i k =>
  if k < m then (if a.kind.toNat % 6 = 0 ∧ a.seg = (i : Int) ∧ a.page = (k : Int) then bytesOf a else if a.kind.toNat % 6 = 1 ∧ a.seg = (i : Int) then FlaM.blank else g i k) else g i k
theorem stepG_zero (a : ActD) (g : Nat → Nat → Bs) : stepG a 0 g = g := by
  funext i k
  unfold stepG
  rw [if_neg (by omega)]
theorem stepG_erase {a : ActD} {i k : Nat} (g : Nat → Nat → Bs) (h1 : a.kind.toNat % 6 = 1) (hs : a.seg = (i : Int)) : gridV (putG (stepG a k g) i k FlaM.blank) = gridV (stepG a (k + 1) g) := by
  apply gridV_congr
  intro i' k' hi' hk'
  unfold putG stepG
  rw [h1, hs]
  by_cases e : i' = i ∧ k' = k
  · rw [if_pos e, if_pos (by have := e.2; omega), if_neg (fun hh => by cases hh.1), if_pos ⟨rfl, by rw [e.1]⟩]
  · rw [if_neg e]
    by_cases h : k' < k
    · rw [if_pos h, if_pos (show k' < k + 1 by omega)]
    · rw [if_neg h]
      by_cases h2 : k' < k + 1
      · rw [if_pos h2, if_neg (fun hh => by cases hh.1), if_neg (fun hh => e ⟨by have := hh.2; omega, by omega⟩)]
      · rw [if_neg h2]
theorem stepG_prog {a : ActD} {i k : Nat} (g : Nat → Nat → Bs) (h0 : a.kind.toNat % 6 = 0) (hs : a.seg = (i : Int)) (hp : a.page = (k : Int)) : gridV (putG (stepG a k g) i k (bytesOf a)) = gridV (stepG a (k + 1) g) := by
  apply gridV_congr
  intro i' k' hi' hk'
  unfold putG stepG
  rw [h0, hs, hp]
  by_cases e : i' = i ∧ k' = k
  · rw [if_pos e, if_pos (by have := e.2; omega), if_pos ⟨rfl, by rw [e.1], by rw [e.2]⟩]
  · rw [if_neg e]
    by_cases h : k' < k
    · rw [if_pos h, if_pos (show k' < k + 1 by omega)]
    · rw [if_neg h]
      by_cases h2 : k' < k + 1
      · rw [if_pos h2, if_neg (fun hh => e ⟨by have := hh.2.1; omega, by omega⟩), if_neg (fun hh => by cases hh.1)]
      · rw [if_neg h2]
theorem stepG_same {a : ActD} {k : Nat} (g : Nat → Nat → Bs) (h1 : a.kind.toNat % 6 ≠ 1) (h0 : ¬ (a.kind.toNat % 6 = 0 ∧ a.page = (k : Int))) : gridV (stepG a k g) = gridV (stepG a (k + 1) g) := by
  apply gridV_congr
  intro i' k' hi' hk'
  unfold stepG
  by_cases h : k' < k
  · rw [if_pos h, if_pos (show k' < k + 1 by omega)]
  · rw [if_neg h]
    by_cases h2 : k' < k + 1
    · have e : k' = k := by omega
      subst e
      rw [if_pos h2, if_neg (fun hh => h0 ⟨hh.1, hh.2.2⟩), if_neg (fun hh => h1 hh.1)]
    · rw [if_neg h2]
theorem stepG_all {s : FS} {N : Nat} (ok : Ok s N) (hs : Size s 4 4) (a : ActD) (hk2 : a.kind.toNat % 6 ≤ 2) (h : (doAct s a).2 = 0) : gridV (stepG a 4 (fun i k => now s i k)) = gridV (fun i k => now (doAct s a).1 i k) := by
  apply gridV_congr
  intro i k hi hk
  unfold stepG
  rw [if_pos hk, now_act ok hs a hk2 h i k hi hk]
theorem idxR {o : Oper} {x y : Tmp} (ho : o.op = .indexAddr 61 (.tmp x) (.tmp y)) {i : Nat} (hi : i < 4) (b : Nat) (ρ : Operand → Value) (w : World) (h0 : ρ (.tmp x) = .pointer (some ⟨b, 0, none⟩)) (h1 : ρ (.tmp y) = .int .i64 (i : Int)) : (execOp ρ o).run Try.prog w = .ok (.value (.pointer (some ⟨b, i * 4, none⟩))) w := by
  have hi' : (i : Int) < 4 := by omega
  simp [execOp, ho, h0, h1, go_sem, hi, hi']
theorem idxC {o : Oper} {x y : Tmp} (ho : o.op = .indexAddr 60 (.tmp x) (.tmp y)) {k : Nat} (hk : k < 4) (b i : Nat) (ρ : Operand → Value) (w : World) (h0 : ρ (.tmp x) = .pointer (some ⟨b, i * 4, none⟩)) (h1 : ρ (.tmp y) = .int .i64 (k : Int)) : (execOp ρ o).run Try.prog w = .ok (.value (.pointer (some ⟨b, i * 4 + k, none⟩))) w := by
  have hk' : (k : Int) < 4 := by omega
  simp [execOp, ho, h0, h1, go_sem, hk, hk']
theorem load_st {o : Oper} {x : Tmp} (ho : o.op = .load 9 (.tmp x)) {ad : Addr} {v : List UInt8} {w : World} (hc : w.cell? ad = some (.string (strB v))) {ρ : Operand → Value} (h0 : ρ (.tmp x) = .pointer (some ad)) : (execOp ρ o).run Try.prog w = .ok (.value (.string (strB v))) w := by
  simp [execOp, ho, h0, go_sem, hc]
theorem bytes_ty (a : ActD) (ab af : Option Addr) (cb cf : Nat) {B : Nat} (wx : World) (hs : B ≤ wx.heap.size) (hin : inAct a B wx (actVs a (.slice ab a.b.length cb) (.slice af a.fates.length cf))) (hb : a.b.length ≤ 128) :
    Calls Try.prog 24 #[.agg (actVs a (.slice ab a.b.length cb) (.slice af a.fates.length cf)).toArray] wx fun e w' => ∃ v, e = .returned v ∧ (tyG (bytesOf a)).holds v w' ∧ Below wx.heap.size wx w' := by
  obtain ⟨i1, i2, i3, i4, _⟩ := actIn_of hin
  refine (bytes_any a ab af cb cf (Own.St.start wx) ⟨i1.mono (fun k hk => Nat.lt_of_lt_of_le hk hs), i2, i3, i4⟩).mono ?_
  rintro e w' ⟨ao, cap, rfl, h | h⟩
  · exact ⟨_, rfl, ⟨ao, cap, rfl, given_own h.2 0 rfl⟩, h.2.below⟩
  · omega
theorem act_len {s : FS} (a : ActD) (h0 : a.kind.toNat % 6 = 0) (h : (doAct s a).2 = 0) : a.b.length ≤ 128 := by
  unfold doAct at h
  rw [h0] at h
  have h' : (progF s a.seg a.page (bytesOf a)).2 = 0 := h
  unfold progF at h'
  by_cases hx : there s a.seg a.page = false ∨ (bytesOf a).length ≠ 128
  · rw [if_pos hx] at h'; cases h'
  · have hb : (bytesOf a).length = 128 := by
      rcases Nat.decEq (bytesOf a).length 128 with hy | hy
      · exact absurd (Or.inr hy) hx
      · exact hy
    rw [bytesOf_len] at hb
    omega
theorem now_same {s : FS} {r : FS × Nat} (h : Op7 s r) (hr : r.2 ≠ 0) (i k : Nat) : now r.1 i k = now s i k := by
  cases h with
  | arg e he => rfl
  | dead hd => rfl
  | trip hd => exact now_trip s i k
  | ok => exact absurd rfl hr
end Fla
end Go.Proofs.Ytepllhfofhehaaa
