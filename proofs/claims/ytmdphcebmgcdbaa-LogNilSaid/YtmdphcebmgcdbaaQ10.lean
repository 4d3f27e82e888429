/- Merged: SrtA Rdw TbaD TbaE TbaF TbaG SrtD SrtE TbaX FlbA FlbB FlbC FlbD FlbE FlbF FlbH FlbI FlaD -/
import Derived.Sort.AssemblyPlain
import Derived.Sort.LotA
import Derived.BigRegion
import Derived.ArgAppend
import Derived.Sort.LotD4
import Derived.Lib.BitFns
import Derived.Lib.Small
import Derived.Sort.Walk7a
import Derived.Sort.Walk7
import Derived.Sort.WalkA14
import Derived.Sort.Walk13a
import Derived.Deep.LoopGhost
import Derived.Deep.CutRange
import Derived.Deep.MidRow
import Derived.Laws.Rows
import Derived.Lib.Hide
import Derived.Deep.RegionLaw
import Derived.Great.Walk
import Derived.Test.YtmdphcebmgcdbaaQ3
import Derived.Test.YtmdphcebmgcdbaaQ4
import Derived.Test.YtmdphcebmgcdbaaQ5
import Derived.Test.YtmdphcebmgcdbaaQ6
import Derived.Test.YtmdphcebmgcdbaaQ9
set_option linter.unusedVariables false
section
namespace Go.Proofs.Ytmdphcebmgcdbaa
open Go.RowKit Go.Own
namespace Srt
abbrev iV (n : Nat) : Value := .int .i64 (n : Int)
theorem set_cells (l : List Nat) (i v : Nat) : (l.map iV).set i (iV v) = (l.set i v).map iV := by rw [List.map_set]
/-- a row of n numbers at g, behind it what else is there -/
structure Sd (Ok : Nat → Prop) (B : Nat) (w0 : World) (Ts : List Asn) (g n c : Nat) (Rs : List Asn) (w : World) (d : Array Nat) : Prop where
  st : Own.St B w0 w (ARow 3 1 (.slice (some ⟨g, 0, none⟩) n c) n (d.toList.map iV) :: (Rs ++ Ts))
  size : d.size = n
  ok : ∀ i, i < n → Ok d[i]!
section
variable {Ok : Nat → Prop} {B : Nat} {w0 w : World} {Ts Rs : List Asn} {g n c : Nat} {d : Array Nat}
theorem at_bang {d : Array Nat} {i : Nat} (h : i < d.size) : (d.toList.map iV)[i]? = some (iV d[i]!) := by
  rw [List.getElem?_map, Array.getElem?_toList, Array.getElem?_eq_getElem h, getElem!_pos d i h]; rfl
theorem Sd.cell (S : Sd Ok B w0 Ts g n c Rs w d) {i : Nat} (hi : i < n) : w.cell? ⟨g, i, none⟩ = some (iV d[i]!) := by
  obtain ⟨g', e, ⟨u, hu, hc⟩, _, _⟩ := S.st.rowAt 0 rfl i (by omega)
  cases e
  rw [at_bang (by rw [S.size]; exact hi)] at hu
  cases hu
  exact hc
theorem Sd.later (S : Sd Ok B w0 Ts g n c Rs w d) {w' : World} (h : Below w.heap.size w w') : Sd Ok B w0 Ts g n c Rs w' d := ⟨S.st.later h, S.size, S.ok⟩
theorem Sd.drew (S : Sd Ok B w0 Ts g n c Rs w d) : Sd Ok B w0 Ts g n c Rs w.drew d := ⟨S.st.drew, S.size, S.ok⟩
theorem Sd.rest (S : Sd Ok B w0 Ts g n c Rs w d) : Own.St B w0 w Ts := by
  have h := S.st.drop (Rs.length + 1)
  simpa using h
theorem Sd.put (S : Sd Ok B w0 Ts g n c Rs w d) {i : Nat} (hi : i < n) (v : Nat) (hv : Ok v) : Sd Ok B w0 Ts g n c Rs (w.setCell ⟨g, i, none⟩ (iV v)) (d.setIfInBounds i v) := by
  obtain ⟨g', e, _, _, put⟩ := S.st.rowAt 0 rfl i (by omega)
  cases e
  have h := put (iV v)
  simp only [List.set_cons_zero] at h
  rw [set_cells] at h
  refine ⟨?_, by simpa using S.size, ?_⟩
  · rw [Array.toList_setIfInBounds]; exact h
  · intro k hk
    have hks : k < d.size := by rw [S.size]; exact hk
    rw [getElem!_pos _ k (by simpa using hks), Array.getElem_setIfInBounds hks]
    split
    · exact hv
    · rw [← getElem!_pos d k hks]; exact S.ok k hk
theorem Sd.swap (S : Sd Ok B w0 Ts g n c Rs w d) {i j : Nat} (hi : i < n) (hj : j < n) :
    Sd Ok B w0 Ts g n c Rs ((w.setCell ⟨g, i, none⟩ (iV d[j]!)).setCell ⟨g, j, none⟩ (iV d[i]!)) (Sort.swp d i j) :=
  (S.put hi d[j]! (S.ok j hj)).put hj d[i]! (S.ok i hi)
theorem Sd.swap2 (S : Sd Ok B w0 Ts g n c Rs w d) {i j : Nat} (hi : i < n) (hj : j < n) : ∃ u, (w.setCell ⟨g, i, none⟩ (iV d[j]!)).cell? ⟨g, j, none⟩ = some u :=
  ⟨_, (S.put hi d[j]! (S.ok j hj)).cell hj⟩
end
section
variable {o : Oper} {x y : Tmp} {X Y : Operand} {w : World}
end
section
variable {C : World → Prop} {Q : Act → World → Prop} {ds : List Deferred} {rest : List Oper} {I : Lx} {fs : List Value} {ops : Array Oper} {o : Oper}
end
section
variable {Ok : Nat → Prop} {B : Nat} {w0 w : World} {Ts Rs : List Asn} {g n c : Nat} {d : Array Nat}
end
end Srt
end Go.Proofs.Ytmdphcebmgcdbaa

end
section
namespace Go.Own
open Go.RowKit
/-- a slice that reads as these cells, wherever it begins -/
def RdWin (w : World) (v : Value) (n : Nat) (xs : List Value) : Prop := ∃ ao cap, v = .slice ao n cap ∧ (n = 0 ∨ ∃ g o, ao = some ⟨g, o, none⟩ ∧ ∀ j u, xs[j]? = some u → w.cell? ⟨g, o + j, none⟩ = some u)
theorem RdWin.later {W w : World} {v : Value} {n : Nat} {xs : List Value} (h : RdWin W v n xs) (hb : Below W.heap.size W w) : RdWin w v n xs := by
  obtain ⟨ao, cap, e, h⟩ := h
  refine ⟨ao, cap, e, ?_⟩
  rcases h with h | ⟨g, o, e2, hc⟩
  · exact .inl h
  · exact .inr ⟨g, o, e2, fun j u hu => cellLater' (hc j u hu) hb⟩
end Go.Own

end
section
namespace Go.Proofs.Ytmdphcebmgcdbaa
open Go.RowKit Go.Own
namespace Tba
open Go.TabM Tab
/-- cmp.Compare of two numbers -/
def cmpN (x y : Nat) : Int := if x < y then -1 else if y < x then 1 else 0
theorem cmp32 (x y : Nat) (w : World) : Calls Try.prog 93 #[.int .u32 (x : Int), .int .u32 (y : Int)] w fun e w' => e = .returned (.int .i64 (cmpN x y)) ∧ w' = w := by
  unfold cmpN
  by_cases h1 : x < y
  · have h1I : (x : Int) < (y : Int) := by omega
    rw [if_pos h1]
    go_enter Try.func93, Try.ntmps93
    go_wp2
    go_ret
    exact ⟨rfl, rfl⟩
  · rw [if_neg h1]
    have h1I : ¬ (x : Int) < (y : Int) := by omega
    by_cases h2 : y < x
    · have h2I : (y : Int) < (x : Int) := by omega
      rw [if_pos h2]
      go_enter Try.func93, Try.ntmps93
      go_wp2
      go_ret
      exact ⟨rfl, rfl⟩
    · rw [if_neg h2]
      have h2I : ¬ (y : Int) < (x : Int) := by omega
      go_enter Try.func93, Try.ntmps93
      go_wp2
      go_ret
      exact ⟨rfl, rfl⟩
def wearCmp (rows : List Sg) (i j : Nat) : Int := cmpN (at_ rows i).wear (at_ rows j).wear
end Tba
end Go.Proofs.Ytmdphcebmgcdbaa

end
section
namespace Go.Proofs.Ytmdphcebmgcdbaa
open Go.RowKit Go.Own
namespace Tba
open Go.TabM Tab
theorem fld_rows {o : Oper} {X : Operand} (ho : o.op = .fieldAddr 95 X 0) {p : Nat} (ρ : Operand → Value) (w : World) (h0 : ρ X = .pointer (some ⟨p, 0, none⟩)) : (execOp ρ o).run Try.prog w = .ok (.value (.pointer (some ⟨p, 0, none⟩))) w := by
  simp [execOp, ho, h0, go_sem, add_of]
theorem fld_seg2 {o : Oper} {X : Operand} (ho : o.op = .fieldAddr 133 X 2) {p i : Nat} (ρ : Operand → Value) (w : World) (h0 : ρ X = .pointer (some ⟨p, i, none⟩)) : (execOp ρ o).run Try.prog w = .ok (.value (.pointer (some ⟨p, i + 2, none⟩))) w := by
  simp [execOp, ho, h0, go_sem, add_of]
theorem ld_rows {o : Oper} {X : Operand} (ho : o.op = .load 93 X) {a : Addr} {v : Value} (ρ : Operand → Value) {w : World} (hc : w.cell? a = some v) (h0 : ρ X = .pointer (some a)) : (execOp ρ o).run Try.prog w = .ok (.value v) w := by
  simp [execOp, ho, h0, go_sem, hc]
theorem ld_w {o : Oper} {X : Operand} (ho : o.op = .load 50 X) {a : Addr} {v : Value} (ρ : Operand → Value) {w : World} (hc : w.cell? a = some v) (h0 : ρ X = .pointer (some a)) : (execOp ρ o).run Try.prog w = .ok (.value v) w := by
  simp [execOp, ho, h0, go_sem, hc]
section
variable {B : Nat} {w0 w : World} {Ps : List Asn} {p : Nat} {v : Value} {t : T} {N : Nat}
set_option maxHeartbeats 1600000 in
theorem byWear_any (H : Own.St B w0 w (AT p v t :: Ps)) (i j : Nat) (hi0 : i < t.rows.length) (hj0 : j < t.rows.length) : Calls Try.prog 91 #[ptr p, .int .i64 (i : Int), .int .i64 (j : Int)] w fun e w' => e = .returned (.int .i64 (wearCmp t.rows i j)) ∧ Below w.heap.size w w' := by
  have h0 := at_open H
  obtain ⟨g, cap, rfl, ha⟩ := rowG_at h0 1 rfl i hi0
  obtain ⟨g', cap', e, hb⟩ := rowG_at h0 1 rfl j hj0
  simp only [Value.slice.injEq, Option.some.injEq, Addr.mk.injEq, and_true, true_and] at e
  obtain ⟨rfl, -⟩ := e
  obtain ⟨n, hn⟩ : ∃ n, n = t.rows.length := ⟨_, rfl⟩
  have hi : i < n := by omega
  have hj : j < n := by omega
  have CV : Hid (∀ wx, Below w.heap.size w wx → wx.cell? ⟨p, 0, none⟩ = some (.slice (some ⟨g, 0, none⟩) n cap)) := fun wx hw => by rw [hn]; exact ((h0.later hw).cellV 0 rfl 0 rfl).1
  obtain ⟨x, hx⟩ : ∃ x, x = (at_ t.rows i).wear := ⟨_, rfl⟩
  obtain ⟨y, hy⟩ : ∃ x, x = (at_ t.rows j).wear := ⟨_, rfl⟩
  have CX : Hid (∀ wx, Below w.heap.size w wx → wx.cell? ⟨g, i * 3 + 2, none⟩ = some (.int .u32 (x : Int))) := fun wx hw => by rw [hx]; exact cellLater' ha.c2 hw
  have CY : Hid (∀ wx, Below w.heap.size w wx → wx.cell? ⟨g, j * 3 + 2, none⟩ = some (.int .u32 (y : Int))) := fun wx hw => by rw [hy]; exact cellLater' hb.c2 hw
  obtain ⟨z, hz⟩ : ∃ z, z = wearCmp t.rows i j := ⟨_, rfl⟩
  have CZ : Hid (∀ wx, Calls Try.prog 93 #[.int .u32 (x : Int), .int .u32 (y : Int)] wx fun e w' => e = .returned (.int .i64 z) ∧ Below wx.heap.size wx w') := fun wx => (cmp32 x y wx).mono fun _ _ h => ⟨by rw [h.1, hz, hx, hy]; rfl, h.2 ▸ Below.refl _ _⟩
  rw [← hz]
  clear hz hx hy ha hb h0 H hn hi0 hj0
  go_enter Try.func91, Try.ntmps91
  go_wp2_with (fail)
  refine wp_lax_list (by kernel_rfl) (by kernel_rfl) (by kernel_rfl) ?_
  refine wpL_move (ptr p) rfl (by kernel_rfl) (by kernel_rfl) (by kernel_rfl) (by kernel_rfl) ?_
  refine wpL_run1 (x := .tmp 7) (ptr p) (.pointer (some ⟨p, 0, none⟩)) (by kernel_rfl) (by kernel_rfl) (by kernel_rfl) (by kernel_rfl) (by kernel_rfl) (fun wx ρ hwx h0 hc => by simp [go_sem, h0]) ?_
  refine wpL_run1 (x := .tmp 8) (.pointer (some ⟨p, 0, none⟩)) (.pointer (some ⟨p, 0, none⟩)) (by kernel_rfl) (by kernel_rfl) (by kernel_rfl) (by kernel_rfl) (by kernel_rfl) (fun wx ρ hwx h0 hc => fld_rows rfl ρ wx h0) ?_
  refine wpL_run1 (x := .tmp 9) (.pointer (some ⟨p, 0, none⟩)) (.slice (some ⟨g, 0, none⟩) n cap) (by kernel_rfl) (by kernel_rfl) (by kernel_rfl) (by kernel_rfl) (by kernel_rfl) (fun wx ρ hwx h0 hc => ld_rows rfl ρ (CV.out wx hwx) h0) ?_
  refine wpL_move (.int .i64 (i : Int)) rfl (by kernel_rfl) (by kernel_rfl) (by kernel_rfl) (by kernel_rfl) ?_
  refine wpL_run2 (x := .tmp 10) (y := .tmp 11) (.slice (some ⟨g, 0, none⟩) n cap) (.int .i64 (i : Int)) (.pointer (some ⟨g, i * 3, none⟩)) (by kernel_rfl) (by kernel_rfl) (by kernel_rfl) (by kernel_rfl) (by kernel_rfl) (by kernel_rfl) (fun wx ρ hwx h0 h1 hc => idx_seg rfl hi ρ wx h0 h1) ?_
  refine wpL_run1 (x := .tmp 12) (.pointer (some ⟨g, i * 3, none⟩)) (.pointer (some ⟨g, i * 3 + 2, none⟩)) (by kernel_rfl) (by kernel_rfl) (by kernel_rfl) (by kernel_rfl) (by kernel_rfl) (fun wx ρ hwx h0 hc => fld_seg2 rfl ρ wx h0) ?_
  refine wpL_run1 (x := .tmp 13) (.pointer (some ⟨g, i * 3 + 2, none⟩)) (.int .u32 (x : Int)) (by kernel_rfl) (by kernel_rfl) (by kernel_rfl) (by kernel_rfl) (by kernel_rfl) (fun wx ρ hwx h0 hc => ld_w rfl ρ (CX.out wx hwx) h0) ?_
  refine wpL_move (ptr p) rfl (by kernel_rfl) (by kernel_rfl) (by kernel_rfl) (by kernel_rfl) ?_
  refine wpL_run1 (x := .tmp 15) (ptr p) (.pointer (some ⟨p, 0, none⟩)) (by kernel_rfl) (by kernel_rfl) (by kernel_rfl) (by kernel_rfl) (by kernel_rfl) (fun wx ρ hwx h0 hc => by simp [go_sem, h0]) ?_
  refine wpL_run1 (x := .tmp 16) (.pointer (some ⟨p, 0, none⟩)) (.pointer (some ⟨p, 0, none⟩)) (by kernel_rfl) (by kernel_rfl) (by kernel_rfl) (by kernel_rfl) (by kernel_rfl) (fun wx ρ hwx h0 hc => fld_rows rfl ρ wx h0) ?_
  refine wpL_run1 (x := .tmp 17) (.pointer (some ⟨p, 0, none⟩)) (.slice (some ⟨g, 0, none⟩) n cap) (by kernel_rfl) (by kernel_rfl) (by kernel_rfl) (by kernel_rfl) (by kernel_rfl) (fun wx ρ hwx h0 hc => ld_rows rfl ρ (CV.out wx hwx) h0) ?_
  refine wpL_move (.int .i64 (j : Int)) rfl (by kernel_rfl) (by kernel_rfl) (by kernel_rfl) (by kernel_rfl) ?_
  refine wpL_run2 (x := .tmp 18) (y := .tmp 19) (.slice (some ⟨g, 0, none⟩) n cap) (.int .i64 (j : Int)) (.pointer (some ⟨g, j * 3, none⟩)) (by kernel_rfl) (by kernel_rfl) (by kernel_rfl) (by kernel_rfl) (by kernel_rfl) (by kernel_rfl) (fun wx ρ hwx h0 h1 hc => idx_seg rfl hj ρ wx h0 h1) ?_
  refine wpL_run1 (x := .tmp 20) (.pointer (some ⟨g, j * 3, none⟩)) (.pointer (some ⟨g, j * 3 + 2, none⟩)) (by kernel_rfl) (by kernel_rfl) (by kernel_rfl) (by kernel_rfl) (by kernel_rfl) (fun wx ρ hwx h0 hc => fld_seg2 rfl ρ wx h0) ?_
  refine wpL_run1 (x := .tmp 21) (.pointer (some ⟨g, j * 3 + 2, none⟩)) (.int .u32 (y : Int)) (by kernel_rfl) (by kernel_rfl) (by kernel_rfl) (by kernel_rfl) (by kernel_rfl) (fun wx ρ hwx h0 hc => ld_w rfl ρ (CY.out wx hwx) h0) ?_
  refine wpL_fn (.int .i64 z) [.int .u32 (x : Int), .int .u32 (y : Int)] rfl (by kernel_rfl) (by kernel_rfl) (by kernel_rfl) (by kernel_rfl) (fun _ _ => by simp [go_sem]) (fun wx hwx => CZ.out wx) ?_
  refine wpL_assign (.int .i64 z) rfl (by kernel_rfl) (by kernel_rfl) (by kernel_rfl) (by kernel_rfl) ?_
  refine wpL_end (by kernel_rfl) (fun w1 hw1 => ?_)
  simp only [FinL, setL, List.set_cons_zero, List.set_cons_succ]
  have HW := Lib.hid hw1
  clear hw1
  go_wp2
  go_ret
  exact ⟨rfl, HW.out⟩
end
end Tba
end Go.Proofs.Ytmdphcebmgcdbaa

end
section
namespace Go.Proofs.Ytmdphcebmgcdbaa
open Go.RowKit Go.Own
namespace Tba
open Go.TabM Tab
/-- the least worn of some segments, the first of several -/
def minO (rows : List Sg) : Option Nat → List Nat → Option Nat
  | b, [] => b
  | none, x :: l => minO rows (some x) l
  | some m, x :: l => minO rows (some (if (at_ rows x).wear < (at_ rows m).wear then x else m)) l
theorem best_all (rows : List Sg) : ∀ (l : List Sg) (i : Nat) (b : Option Nat), (∀ k s, l[k]? = some s → at_ rows (i + k) = s) →
    bestF (b.map fun m => (m, (at_ rows m).wear)) i l = (minO rows b (allF 0 i l)).map fun m => (m, (at_ rows m).wear)
  | [], _, b, _ => by simp [bestF, allF, minO]
  | s :: l, i, b, h => by
    have hs := h 0 s rfl
    rw [Nat.add_zero] at hs
    have hl : ∀ k s', l[k]? = some s' → at_ rows (i + 1 + k) = s' := fun k s' hk => by
      have := h (k + 1) s' hk
      rwa [show i + (k + 1) = i + 1 + k by omega] at this
    unfold bestF allF
    by_cases hk : s.kind = 0
    · rw [if_pos hk]
      cases b with
      | none =>
        have e : takes (Option.map (fun m => (m, (at_ rows m).wear)) none) s = true := by simp [takes, hk]
        rw [if_pos e, minO]
        have := best_all rows l (i + 1) (some i) hl
        rw [← this, Option.map_some, hs]
      | some m =>
        rw [minO]
        by_cases hw : s.wear < (at_ rows m).wear
        · have e : takes (Option.map (fun m => (m, (at_ rows m).wear)) (some m)) s = true := by simp [takes, hk, hw]
          rw [if_pos e, hs, if_pos hw]
          have := best_all rows l (i + 1) (some i) hl
          rw [← this, Option.map_some, hs]
        · have e : ¬ takes (Option.map (fun m => (m, (at_ rows m).wear)) (some m)) s = true := by simp [takes, hk, hw]
          rw [if_neg e, hs, if_neg hw]
          exact best_all rows l (i + 1) (some m) hl
    · rw [if_neg hk]
      have e : ¬ takes (Option.map (fun m => (m, (at_ rows m).wear)) b) s = true := by simp [takes, hk]
      rw [if_neg e]
      exact best_all rows l (i + 1) b hl
theorem best_min (t : T) : best t = (minO t.rows none (allL 0 t)).map fun m => (m, (at_ t.rows m).wear) := by
  have := best_all t.rows t.rows 0 none (fun k s hk => by rw [Nat.zero_add]; exact at_eq hk)
  exact this
theorem minO_some (rows : List Sg) : ∀ (l : List Nat) (m : Nat), ∃ k, minO rows (some m) l = some k ∧ (k = m ∨ k ∈ l)
  | [], m => ⟨m, rfl, .inl rfl⟩
  | x :: l, m => by
    obtain ⟨k, h1, h2⟩ := minO_some rows l (if (at_ rows x).wear < (at_ rows m).wear then x else m)
    refine ⟨k, h1, ?_⟩
    rcases h2 with h2 | h2
    · by_cases h : (at_ rows x).wear < (at_ rows m).wear
      · rw [if_pos h] at h2; exact .inr (by rw [h2]; exact List.mem_cons_self)
      · rw [if_neg h] at h2; exact .inl h2
    · exact .inr (List.mem_cons_of_mem _ h2)
theorem wear_lt (rows : List Sg) (x m : Nat) : decide (wearCmp rows x m < 0) = decide ((at_ rows x).wear < (at_ rows m).wear) := by
  unfold wearCmp cmpN
  by_cases h : (at_ rows x).wear < (at_ rows m).wear
  · simp [h]
  · by_cases h2 : (at_ rows m).wear < (at_ rows x).wear <;> simp [h, h2]
theorem minO_at {rows : List Sg} {L : List Nat} {i m : Nat} (hi : i < L.length) : minO rows (some m) (L.drop i) = minO rows (some (if (at_ rows L[i]).wear < (at_ rows m).wear then L[i] else m)) (L.drop (i + 1)) := by
  rw [List.drop_eq_getElem_cons hi, minO]
theorem enters40 (args : Array Value) (w : World) : (callFunc 91 args).run Try.prog w = .ok (.enter 91 args) w := by simp [go_sem]
section
variable {B : Nat} {w0 w : World} {Ps : List Asn} {p : Nat} {v : Value} {t : T} {N : Nat}
theorem rowG_at2 {rows : List Sg} {g c : Nat} (H : Own.St B w0 w Ps) (i : Nat) (hi : Ps[i]? = some (RowG (.slice (some ⟨g, 0, none⟩) rows.length c) rows)) (j : Nat) (hj : j < rows.length) : At w g j (at_ rows j) := by
  obtain ⟨g', c', e, ha⟩ := rowG_at H i hi j hj
  simp only [Value.slice.injEq, Option.some.injEq, Addr.mk.injEq, and_true, true_and] at e
  obtain ⟨rfl, rfl⟩ := e
  exact ha
set_option maxHeartbeats 4000000 in
theorem min_any (H : Own.St B w0 w (AT p v t :: Ps)) (L : List Nat) (hL : ∀ x ∈ L, x < t.rows.length) (hl : L.length ≤ 256) (m : Nat) (l : List Nat) (hml : L = m :: l) {w1 : World} {ao : Option Addr} {c : Nat} (h1 : Own.St w.heap.size w w1 [RowI (.slice ao L.length c) L L.length]) :
    Calls Try.prog 90 #[.slice ao L.length c, .func (.func 91) #[ptr p] #[]] w1 fun e w' => e = .returned (.int .i64 (((minO t.rows (some m) l).getD 0 : Nat) : Int)) ∧ Below w.heap.size w w' := by
  obtain ⟨R, hR⟩ : ∃ R, R = (minO t.rows (some m) l).getD 0 := ⟨_, rfl⟩
  rw [← hR]
  have hR0 : R = (minO t.rows (some m) (L.drop 1)).getD 0 := by rw [hR, hml]; rfl
  have HR0 := Lib.hid hR0
  have HL := Lib.hid hL
  have HH := Lib.hid H
  have H1 := Lib.hid h1
  obtain ⟨n, hn⟩ : ∃ n, n = L.length := ⟨_, rfl⟩
  have hn1 : 0 < n := by rw [hn, hml]; exact Nat.succ_pos _
  have HN := Lib.hid hn
  rw [← hn] at hl H1 ⊢
  have hmL : L[0]'(by omega) = m := by subst hml; rfl
  have hm0 : (L.map iV)[0]? = some (iV m) := by rw [hml]; rfl
  obtain ⟨g, rfl, ⟨u, hu, d0⟩, _, _⟩ := H1.out.rowAt 0 rfl 0 (by omega)
  rw [hm0] at hu
  cases hu
  have HM : Hid (m ∈ L) := by show m ∈ L; rw [hml]; exact List.mem_cons_self
  clear hR hR0 hL H h1 hn hmL hm0 hml
  have hlt1 : ¬ (n : Int) < 1 := by omega
  go_enter Try.func90, Try.ntmps90
  go_wp2
  go_loopw [5, 6] (fun v5 v6 wr => ∃ (i k : Nat), v5 = .int .i64 (k : Int) ∧ v6 = .int .i64 (i : Int) ∧ 1 ≤ i ∧ i ≤ n ∧ k ∈ L ∧ R = (minO t.rows (some k) (L.drop i)).getD 0 ∧ Own.St w.heap.size w wr [RowI (.slice (some ⟨g, 0, none⟩) n c) L n]) (fun _ v6 _ => n - (intOf v6).toNat)
  case atStart => exact ⟨1, m, rfl, rfl, Nat.le_refl _, hn1, HM.out, HR0.out, H1.out⟩
  case round =>
    obtain ⟨i, k, rfl, rfl, h1i, hin, hk, hr, hs⟩ := hrel
    have HS := Lib.hid hs
    have HRR := Lib.hid hr
    have HK := Lib.hid hk
    clear hs hr hk HR0 H1 d0
    by_cases hi : i < n
    · have hiI : (i : Int) < (n : Int) := by omega
      have hiL : i < L.length := by rw [← HN.out]; exact hi
      obtain ⟨x, hx⟩ : ∃ x, x = L[i] := ⟨_, rfl⟩
      have hxL : x ∈ L := by rw [hx]; exact List.getElem_mem _
      have hxm : (L.map iV)[i]? = some (iV x) := by rw [List.getElem?_map, List.getElem?_eq_getElem hiL, hx]; rfl
      obtain ⟨g2, hg2, ⟨u, hu, d0⟩, _, _⟩ := HS.out.rowAt 0 rfl i (by omega)
      cases hg2
      rw [hxm] at hu
      cases hu
      have CB := Lib.hid (byWear_any (HH.out.later HS.out.below) x k (HL.out x hxL) (HL.out k HK.out))
      obtain ⟨z, hz⟩ : ∃ z, z = wearCmp t.rows x k := ⟨_, rfl⟩
      rw [← hz] at CB
      have hwl := wear_lt t.rows x k
      rw [← hz] at hwl
      have HRN : Hid (R = (minO t.rows (some (if (at_ t.rows x).wear < (at_ t.rows k).wear then x else k)) (L.drop (i + 1))).getD 0) := by show _ = _; rw [HRR.out, minO_at hiL, ← hx]
      have HXL := Lib.hid hxL
      have ENT := Lib.hid enters40
      clear hz hx hxL hxm HRR
      by_cases hlt : (at_ t.rows x).wear < (at_ t.rows k).wear
      · have hzI : z < 0 := by rw [decide_eq_true hlt] at hwl; exact of_decide_eq_true hwl
        have HRM : Hid (R = (minO t.rows (some x) (L.drop (i + 1))).getD 0) := by show _ = _; rw [HRN.out, if_pos hlt]
        clear hwl hlt HRN hiL
        go_wp2_with (fail)
        refine CB.out.mono ?_
        clear CB
        rintro e w2 ⟨rfl, hb⟩
        have HS2 := Lib.hid (HS.out.later hb)
        obtain ⟨g3, hg3, ⟨u, hu, d1⟩, _, _⟩ := HS2.out.rowAt 0 rfl i (by omega)
        have hxm : (L.map iV)[i]? = some (iV x) := by
          obtain ⟨g4, hg4, ⟨u4, hu4, d4⟩, _, _⟩ := HS.out.rowAt 0 rfl i (by omega)
          cases hg4
          rw [d0] at d4
          cases d4
          exact hu4
        cases hg3
        rw [hxm] at hu
        cases hu
        clear hb hxm d0
        go_wp2
        go_roundw
        case rel => exact ⟨i + 1, x, rfl, by go_num, by omega, by omega, HXL.out, HRM.out, HS2.out⟩
        case measure => simp [intOf]; omega
      · have hzI : ¬ z < 0 := by rw [decide_eq_false hlt] at hwl; exact of_decide_eq_false hwl
        have HRM : Hid (R = (minO t.rows (some k) (L.drop (i + 1))).getD 0) := by show _ = _; rw [HRN.out, if_neg hlt]
        clear hwl hlt HRN hiL
        go_wp2_with (fail)
        refine CB.out.mono ?_
        clear CB
        rintro e w2 ⟨rfl, hb⟩
        have HS2 := Lib.hid (HS.out.later hb)
        clear hb d0
        go_wp2
        go_roundw
        case rel => exact ⟨i + 1, k, rfl, by go_num, by omega, by omega, HK.out, HRM.out, HS2.out⟩
        case measure => simp [intOf]; omega
    · have hiI : ¬ (i : Int) < (n : Int) := by omega
      have HE : Hid (R = k) := by show _ = _; rw [HRR.out, List.drop_of_length_le (by rw [← HN.out]; omega)]; rfl
      clear HRR
      have HB := Lib.hid HS.out.below
      go_wp2
      go_ret
      exact ⟨by rw [HE.out]; rfl, HB.out⟩
/-- what leastWorn answers -/
def lwV (t : T) : Value := .tuple #[.int .i64 (((best t).map (·.1)).getD 0 : Nat), .bool (best t).isSome]
set_option maxHeartbeats 4000000 in
theorem least_any (H : Own.St B w0 w (AT p v t :: Ps)) (ok : Ok t N) : Calls Try.prog 85 #[ptr p] w fun e w' => e = .returned (lwV t) ∧ Below w.heap.size w w' := by
  have CC := Lib.hid (all_any H ok 0 (by decide))
  have HH := Lib.hid H
  obtain ⟨L, hL⟩ : ∃ L, L = allL 0 t := ⟨_, rfl⟩
  have hlen : L.length ≤ 256 := by rw [hL]; unfold allL; rw [allF_len]; exact Nat.le_trans List.countP_le_length ok.len
  have HLT : Hid (∀ x ∈ L, x < t.rows.length) := fun x hx => (all_lt (by rw [← hL]; exact hx)).1
  have HBM := Lib.hid (best_min t)
  rw [← hL] at CC HBM
  clear H ok hL
  cases hc : L with
  | nil =>
    have HV : Hid (lwV t = .tuple #[.int .i64 0, .bool false]) := by show _ = _; unfold lwV; rw [HBM.out, hc]; rfl
    rw [HV.out]
    rw [hc] at CC
    clear hc HBM HLT hlen
    go_enter Try.func85, Try.ntmps85
    go_wp2_with (fail)
    refine CC.out.mono ?_
    clear CC
    rintro e w1 ⟨ao, c, rfl, h⟩
    have HB := Lib.hid h.below
    clear h
    go_wp2
    go_ret2
    exact ⟨rfl, HB.out⟩
  | cons m l =>
    have HV : Hid (lwV t = .tuple #[.int .i64 (((minO t.rows (some m) l).getD 0 : Nat) : Int), .bool true]) := by
      show _ = _
      obtain ⟨k, hk, _⟩ := minO_some t.rows l m
      unfold lwV
      rw [HBM.out, hc, minO, hk]
      rfl
    rw [HV.out]
    have MM := Lib.hid (fun (w1 : World) (ao : Option Addr) (c : Nat) (h1 : Own.St w.heap.size w w1 [RowI (.slice ao L.length c) L L.length]) => min_any HH.out L HLT.out hlen m l hc h1)
    obtain ⟨R, hR⟩ : ∃ R, R = (minO t.rows (some m) l).getD 0 := ⟨_, rfl⟩
    obtain ⟨n, hn⟩ : ∃ n, n = L.length := ⟨_, rfl⟩
    have hn1 : ((n : Int) == 0) = false := by rw [hn, hc]; simp; omega
    rw [← hR] at MM ⊢
    rw [← hn] at CC hlen MM
    clear hc HBM HLT hR hn HV
    go_enter Try.func85, Try.ntmps85
    go_wp2_with (fail)
    refine CC.out.mono ?_
    clear CC
    rintro e w1 ⟨ao, c, rfl, h⟩
    have M1 := Lib.hid (MM.out w1 ao c h)
    clear h MM
    go_wp2_with (fail)
    refine M1.out.mono ?_
    clear M1
    rintro e w2 ⟨rfl, hb⟩
    have HB := Lib.hid hb
    clear hb
    go_wp2
    go_ret2
    exact ⟨rfl, HB.out⟩
end
end Tba
end Go.Proofs.Ytmdphcebmgcdbaa

end
section
namespace Go.Proofs.Ytmdphcebmgcdbaa
open Go.RowKit Go.Own
namespace Tba
open Go.TabM Tab
section
variable {B : Nat} {w0 w : World} {Ps : List Asn} {p : Nat} {v : Value} {t : T} {N : Nat}
set_option maxRecDepth 4000 in
set_option maxHeartbeats 4000000 in
theorem open_any (H : Own.St B w0 w (AT p v t :: Ps)) (ok : Ok t N) (hN : N ≤ 100000) : Calls Try.prog 71 #[ptr p] w fun e w' => e = .returned (opV (openT t).2) ∧ Own.St B w0 w' (AT p v (openT t).1 :: Ps) := by
  have CC := Lib.hid (cur_any H ok)
  have HH := Lib.hid H
  have HOK := Lib.hid ok
  obtain ⟨X, hX⟩ : ∃ X, X = openT t := ⟨_, rfl⟩
  rw [← hX]
  have HX := Lib.hid hX
  clear hX H ok
  cases hc : cur t with
  | some i =>
    have e1 : curV t = .tuple #[.int .i64 (i : Int), .bool true] := by unfold curV; rw [hc]; rfl
    have e2 : Hid (X = (t, (0, 0, 3))) := by show _ = _; rw [HX.out]; unfold openT; rw [hc]
    rw [e1] at CC
    clear hc e1
    go_enter Try.func71, Try.ntmps71
    go_wp2_with (fail)
    refine CC.out.mono ?_
    clear CC
    rintro e w1 ⟨rfl, hb⟩
    have H1 := Lib.hid (HH.out.later hb)
    clear hb
    go_wp2
    go_ret3
    rw [e2.out]
    exact ⟨rfl, H1.out⟩
  | none =>
    have e1 : curV t = .tuple #[.int .i64 0, .bool false] := by unfold curV; rw [hc]; rfl
    rw [e1] at CC
    cases hbst : best t with
    | none =>
      have e2 : Hid (X = (t, (0, 0, 5))) := by show _ = _; rw [HX.out]; unfold openT; rw [hc, hbst]
      have e3 : lwV t = .tuple #[.int .i64 0, .bool false] := by unfold lwV; rw [hbst]; rfl
      have LW := Lib.hid (fun (w1 : World) (hb : Below w.heap.size w w1) => least_any (HH.out.later hb) HOK.out)
      rw [e3] at LW
      clear hc e1 hbst e3
      go_enter Try.func71, Try.ntmps71
      go_wp2_with (fail)
      refine CC.out.mono ?_
      clear CC
      rintro e w1 ⟨rfl, hb⟩
      have H1 := Lib.hid (HH.out.later hb)
      have L1 := Lib.hid (LW.out w1 hb)
      clear hb LW
      go_wp2_with (fail)
      refine L1.out.mono ?_
      clear L1
      rintro e w2 ⟨rfl, hb⟩
      have H2 := Lib.hid (H1.out.later hb)
      clear hb
      go_wp2
      go_ret3
      rw [e2.out]
      exact ⟨rfl, H2.out⟩
    | some pr =>
      obtain ⟨i, we⟩ := pr
      have e2 : Hid (X = (opened t i we, (i, t.next, 0))) := by show _ = _; rw [HX.out]; unfold openT; rw [hc, hbst]
      have e3 : lwV t = .tuple #[.int .i64 (i : Int), .bool true] := by unfold lwV; rw [hbst]; rfl
      have LW := Lib.hid (fun (w1 : World) (hb : Below w.heap.size w w1) => least_any (HH.out.later hb) HOK.out)
      rw [e3] at LW
      obtain ⟨hi, hk, hw⟩ := best_some hbst
      have hweb : we ≤ 100000 := by rw [← hw]; exact Nat.le_trans (HOK.out.wear _ (at_mem hi)) hN
      obtain ⟨nx, hnx⟩ : ∃ x, x = t.next := ⟨_, rfl⟩
      have hnxb : nx ≤ 100001 := by rw [hnx]; have := HOK.out.next; omega
      have HW := Lib.hid hw
      have HNX := Lib.hid hnx
      clear hc e1 hbst e3 hk hw hnx
      go_enter Try.func71, Try.ntmps71
      go_wp2_with (fail)
      refine CC.out.mono ?_
      clear CC
      rintro e w1 ⟨rfl, hb⟩
      have H1 := Lib.hid (HH.out.later hb)
      have L1 := Lib.hid (LW.out w1 hb)
      clear hb LW
      go_wp2_with (fail)
      refine L1.out.mono ?_
      clear L1
      rintro e w2 ⟨rfl, hb⟩
      have h0 := at_open (H1.out.later hb)
      obtain ⟨ao, cap, rfl⟩ := h0.rowForm 1 rfl
      obtain ⟨g, cc, e, ha⟩ := rowG_at h0 1 rfl i hi
      simp only [Value.slice.injEq, true_and] at e
      obtain ⟨rfl, rfl⟩ := e
      clear hb
      -- the worlds and what lies in them
      obtain ⟨sq, hsq⟩ : ∃ s, s = (at_ t.rows i).seq := ⟨_, rfl⟩
      obtain ⟨f0, s1⟩ := rowG_set h0 1 rfl i 0 ⟨1, sq, we⟩ (.int .u8 1) hi (by omega) (by rw [hsq, ← HW.out]; rfl)
      simp only [List.set_cons_zero, List.set_cons_succ, Nat.add_zero] at f0 s1
      have hi1 : i < (t.rows.set i ⟨1, sq, we⟩).length := by simpa using hi
      have a1 : at_ (t.rows.set i ⟨1, sq, we⟩) i = ⟨1, sq, we⟩ := at_eq (by rw [List.getElem?_set_self hi])
      obtain ⟨W1, hW1⟩ : ∃ W, W = w2.setCell ⟨g, i * 3, none⟩ (.int .u8 1) := ⟨_, rfl⟩
      rw [← hW1] at s1
      rw [show RowG (.slice (some ⟨g, 0, none⟩) t.rows.length cap) (t.rows.set i ⟨1, sq, we⟩) = RowG (.slice (some ⟨g, 0, none⟩) (t.rows.set i ⟨1, sq, we⟩).length cap) (t.rows.set i ⟨1, sq, we⟩) by rw [List.length_set]] at s1
      have q1 := rowG_at2 s1 1 rfl i hi1
      rw [a1] at q1
      obtain ⟨f1, s2⟩ := rowG_set s1 1 rfl i 1 ⟨1, nx, we⟩ (.int .u64 (nx : Int)) hi1 (by omega) (by rw [a1]; rfl)
      simp only [List.set_cons_zero, List.set_cons_succ, List.set_set, List.length_set] at s2
      obtain ⟨W2, hW2⟩ : ∃ W, W = W1.setCell ⟨g, i * 3 + 1, none⟩ (.int .u64 (nx : Int)) := ⟨_, rfl⟩
      rw [← hW2] at s2
      have hi2 : i < (t.rows.set i ⟨1, nx, we⟩).length := by simpa using hi
      have a2 : at_ (t.rows.set i ⟨1, nx, we⟩) i = ⟨1, nx, we⟩ := at_eq (by rw [List.getElem?_set_self hi])
      rw [show RowG (.slice (some ⟨g, 0, none⟩) t.rows.length cap) (t.rows.set i ⟨1, nx, we⟩) = RowG (.slice (some ⟨g, 0, none⟩) (t.rows.set i ⟨1, nx, we⟩).length cap) (t.rows.set i ⟨1, nx, we⟩) by rw [List.length_set]] at s2
      have q2 := rowG_at2 s2 1 rfl i hi2
      rw [a2] at q2
      obtain ⟨f2, s3⟩ := rowG_set s2 1 rfl i 2 ⟨1, nx, we + 1⟩ (.int .u32 ((we + 1 : Nat) : Int)) hi2 (by omega) (by rw [a2]; rfl)
      simp only [List.set_cons_zero, List.set_cons_succ, List.set_set, List.length_set] at s3
      obtain ⟨W3, hW3⟩ : ∃ W, W = W2.setCell ⟨g, i * 3 + 2, none⟩ (.int .u32 ((we + 1 : Nat) : Int)) := ⟨_, rfl⟩
      rw [← hW3] at s3
      have s4 := s3.storeV 0 rfl 1 (.int .u64 ((nx + 1 : Nat) : Int))
      simp only [List.set_cons_zero, List.set_cons_succ] at s4
      obtain ⟨W4, hW4⟩ : ∃ W, W = W3.setCell ⟨p, 1, none⟩ (.int .u64 ((nx + 1 : Nat) : Int)) := ⟨_, rfl⟩
      rw [← hW4] at s4
      have k0 := (h0.cellV 0 rfl 0 rfl).1
      have k1 := (s1.cellV 0 rfl 1 rfl).1
      have k3 := (s3.cellV 0 rfl 1 rfl).1
      have k3f := (s3.cellV 0 rfl 1 rfl).2
      have m0 := ha.c0
      have m1 := q1.c1
      have m2 := q2.c2
      have s5 : Own.St B w0 W4 (AVals p 95 (tabC (.slice (some ⟨g, 0, none⟩) t.rows.length cap) (opened t i we)) :: RowG (.slice (some ⟨g, 0, none⟩) (t.rows.set i ⟨1, nx, we + 1⟩).length cap) (t.rows.set i ⟨1, nx, we + 1⟩) :: Ps) := by
        rw [List.length_set]
        have e : tabC (.slice (some ⟨g, 0, none⟩) t.rows.length cap) (opened t i we) = [.slice (some ⟨g, 0, none⟩) t.rows.length cap, .int .u64 ((nx + 1 : Nat) : Int)] := by rw [HNX.out]; rfl
        rw [e]
        have e2 : RowG (.slice (some ⟨g, 0, none⟩) t.rows.length cap) (t.rows.set i ⟨1, nx, we + 1⟩) = ARow 133 3 (.slice (some ⟨g, 0, none⟩) t.rows.length cap) (t.rows.set i ⟨1, nx, we + 1⟩).length ((t.rows.set i ⟨1, nx, we + 1⟩).flatMap sgC) := rfl
        exact s4
      have hi3 : i < (t.rows.set i ⟨1, nx, we + 1⟩).length := by simpa using hi
      have a3 : at_ (t.rows.set i ⟨1, nx, we + 1⟩) i = ⟨1, nx, we + 1⟩ := at_eq (by rw [List.getElem?_set_self hi])
      have q3 := rowG_at2 s5 1 rfl i hi3
      rw [a3] at q3
      have n1 := q3.c1
      have HF : Hid (Own.St B w0 W4 (AT p (.slice (some ⟨g, 0, none⟩) t.rows.length cap) (opened t i we) :: Ps)) := Lib.hid (by
        refine at_close ?_
        have e : (opened t i we).rows = t.rows.set i ⟨1, nx, we + 1⟩ := by rw [HNX.out]; rfl
        rw [e]
        rw [List.length_set] at s5
        exact s5)
      simp only at m1 m2 n1
      rw [← HNX.out] at k1 k3
      obtain ⟨n, hn⟩ : ∃ n, n = t.rows.length := ⟨_, rfl⟩
      have hin : i < n := by omega
      have hnb : n ≤ 256 := by rw [hn]; exact HOK.out.len
      rw [← hn] at k0
      have HN := Lib.hid hn
      have E1 := hW1.symm
      have E2 := hW2.symm
      have E3 : W2.setCell ⟨g, i * 3 + 2, none⟩ (.int .u32 ((we : Int) + 1)) = W3 := hW3.symm
      have E4 : W3.setCell ⟨p, 1, none⟩ (.int .u64 ((nx : Int) + 1)) = W4 := hW4.symm
      clear h0 ha hsq s1 s2 s3 s4 s5 q1 q2 q3 a1 a2 a3 hi1 hi2 hi3 hi hW1 hW2 hW3 hW4 hn H1 HH
      go_wp2_with (refine Byt.wpList_val rfl (sat_lt (x := 44) rfl hweb _ _ rfl rfl) ?_)
      go_quiet (fail)
      go_wp2
      go_ret3
      rw [e2.out]
      exact ⟨by rw [← HNX.out]; rfl, HF.out.drewN nq⟩
end
end Tba
end Go.Proofs.Ytmdphcebmgcdbaa

end
section
namespace Go.Proofs.Ytmdphcebmgcdbaa
open Go.RowKit Go.Own
namespace Srt
/-- the counter of exchanges -/
abbrev cntA (bx s : Nat) : Asn := AVals bx 3 [iV s]
section
variable {f : FuncId} {bs cb : Array Value} {cf : Nat → Nat → Int} {Ok : Nat → Prop} {B : Nat} {w0 w : World} {Ts Rs : List Asn} {g n c bx s : Nat} {d : Array Nat}
theorem Sd.cnt (S : Sd Ok B w0 Ts g n c (cntA bx s :: Rs) w d) : w.cell? ⟨bx, 0, none⟩ = some (iV s) ∧ w.frozen? ⟨bx, 0, none⟩ = false := S.st.cellV 1 rfl 0 rfl
theorem Sd.bump (S : Sd Ok B w0 Ts g n c (cntA bx s :: Rs) w d) (s' : Nat) : Sd Ok B w0 Ts g n c (cntA bx s' :: Rs) (w.setCell ⟨bx, 0, none⟩ (iV s')) d :=
  ⟨S.st.storeV 1 rfl 0 (iV s'), S.size, S.ok⟩
end
end Srt
end Go.Proofs.Ytmdphcebmgcdbaa

end
section
namespace Go.Proofs.Ytmdphcebmgcdbaa
open Go.RowKit Go.Own
namespace Srt
section
variable {Ok : Nat → Prop} {B : Nat} {w0 w : World} {Ts Rs : List Asn} {g n c bx X : Nat} {d : Array Nat}
theorem Sd.drewN (S : Sd Ok B w0 Ts g n c Rs w d) (k : Nat) : Sd Ok B w0 Ts g n c Rs (w.drewN k) d := ⟨S.st.drewN k, S.size, S.ok⟩
end
end Srt
end Go.Proofs.Ytmdphcebmgcdbaa

end
section
namespace Go.Proofs.Ytmdphcebmgcdbaa
open Go.RowKit Go.Own
namespace Tba
open Go.TabM Tab
section
variable {B : Nat} {w0 w : World} {Ps : List Asn} {p : Nat} {t : T} {N : Nat}
theorem A_of {v : Value} (h : Own.St B w0 w (AT p v t :: Ps)) : Own.St B w0 w (A p t :: Ps) := Own.St.closeE v h
theorem A_to (h : Own.St B w0 w (A p t :: Ps)) : ∃ v, Own.St B w0 w (AT p v t :: Ps) := Own.St.openE h
end
end Tba
namespace Tab
open Go.TabM Tba
noncomputable def kept (W : World) : Kept W where
  A := Tba.A
  new := fun num _ H hn => (new_any H num hn).mono fun e w' h => by
    by_cases hm : mayBe num = true
    · rw [if_pos hm] at h ⊢
      obtain ⟨q, v, h1, h2⟩ := h
      exact ⟨q, h1, A_of h2⟩
    · rw [if_neg hm] at h ⊢
      obtain ⟨h1, rfl⟩ := h
      exact ⟨h1, H⟩
  open_ := fun _ H ok hN => by
    obtain ⟨v, h⟩ := A_to H
    exact (open_any h ok (by omega)).mono fun e w' h => ⟨h.1, A_of h.2⟩
  seal_ := fun _ H ok _ => by
    obtain ⟨v, h⟩ := A_to H
    exact (seal_any h ok).mono fun e w' h => ⟨h.1, A_of h.2⟩
  cur := fun _ H ok _ => by
    obtain ⟨v, h⟩ := A_to H
    exact cur_any h ok
  rows := fun _ H ok _ => by
    obtain ⟨v, h⟩ := A_to H
    exact (rows_any h ok).mono fun e w' h => by
      obtain ⟨ao, c, h1, h2, h3⟩ := h
      exact ⟨ao, c, h1, (A_of h2.swap2).swap2, h3⟩
  next := fun _ H ok _ => by
    obtain ⟨v, h⟩ := A_to H
    exact next_any h
  nilOpen := Tba.nilOpen
  nilSeal := Tba.nilSeal
  nilCur := fun w => (Tba.nilCur w).mono fun _ _ h => ⟨h.1, h.2 ▸ Below.refl _ _⟩
  nilRows := Tba.nilRows
  nilNext := Tba.nilNext
end Tab
end Go.Proofs.Ytmdphcebmgcdbaa

end
section
namespace Go.Proofs.Ytmdphcebmgcdbaa
open Go.RowKit Go.Own
namespace Fla
open Go.FlaM Byt

theorem info_page (l : Bs) (h : l.length = 128) : (Try.prog.info? 125).map (·.size) = some (l.map byteV).toArray.size := by
  have e : (l.map byteV).toArray.size = 128 := by simp [h]
  have h0 : (Try.prog.info? 125).map (fun i => i.size) = some 128 := by kernel_rfl
  rw [e]
  exact h0
theorem info_pageL (l : Bs) (h : l.length = 128) : (Try.prog.info? 125).map (·.size) = some (l.map byteV).length := by
  have h0 : (Try.prog.info? 125).map (fun i => i.size) = some 128 := by kernel_rfl
  rw [List.length_map, h]
  exact h0

/-- a new variable of many cells -/
theorem wpList_allocZ {P : Program} {ops : Array Oper} {rest : List Oper} {o : Oper} {a : Act} {w : World} {Q : Exit → Act → World → Prop} (hgd : o.guard = none) (ty : TypeId) (ho : o.op = .alloc ty) (z : Array Value) (hz : (P.info? ty).bind (·.zero) = some (.agg z))
    (h : wpList P ops Q rest (a.put o.dst (.pointer (some ⟨w.heap.size, 0, none⟩))) (w.alloc (.cells z ty))) : wpList P ops Q (o :: rest) a w := by
  refine wpList_plain hgd fun K hK => ?_
  obtain ⟨i, hi, hi2⟩ := Option.bind_eq_some_iff.1 hz
  unfold Oper.wp
  simp [execOp, ho, Instr.alloc, zeroValue, typeInfo, hi, hi2, Result.andThen]
  exact hK _ _ h
theorem zero_page : (Try.prog.info? 125).bind (·.zero) = some (.agg ((List.replicate 128 (0 : UInt8)).map byteV).toArray) := by kernel_rfl

set_option maxRecDepth 10000 in
set_option maxHeartbeats 4000000 in
theorem erased_st {B : Nat} {w0 w : World} {Ps : List Asn} (H : Own.St B w0 w Ps) : Calls Try.prog 48 #[] w fun e w' => e = .returned (.agg (FlaM.blank.map byteV).toArray) ∧ Own.St B w0 w' Ps := by
  obtain ⟨bl, hbl⟩ : ∃ b, b = FlaM.blank := ⟨_, rfl⟩
  rw [← hbl]
  have HBL : Hid (bl.length = 128) := by show bl.length = 128; rw [hbl]; exact blank_len
  have HRE : Hid (List.replicate 128 255 = bl) := by show List.replicate 128 255 = bl; rw [hbl]; rfl
  clear hbl
  have hst := A8.box (A8.box H 125 (List.replicate 128 0)) 125 (List.replicate 128 0)
  simp only [size_alloc'] at hst
  obtain ⟨z, hz⟩ : ∃ z, z = ((List.replicate 128 (0 : UInt8)).map byteV).toArray := ⟨_, rfl⟩
  have ZP : Hid ((Try.prog.info? 125).bind (·.zero) = some (.agg z)) := by rw [hz]; exact zero_page
  rw [← hz] at hst
  clear hz
  go_enter Try.func48, Try.ntmps48
  go_wp2_with (first
    | (refine Fla.wpList_allocZ rfl 125 rfl z ZP.out ?_))
  generalize (w.alloc (.cells z 125)).alloc (.cells z 125) = W1 at hst ⊢
  obtain ⟨br, hbr⟩ : ∃ b, b = w.heap.size := ⟨_, rfl⟩
  obtain ⟨bc, hbc⟩ : ∃ b, b = w.heap.size + 1 := ⟨_, rfl⟩
  rw [← hbc, ← hbr] at hst
  rw [← hbc, ← hbr]
  have HST := Lib.hid hst
  clear hst hbr hbc
  go_loopw [3] (fun v wr => ∃ k : Nat, k ≤ 128 ∧ v = .int .i64 (k : Int) ∧ Own.St B w0 wr (A8 bc 125 (ones 255 128 k) :: A8 br 125 (List.replicate 128 0) :: Ps)) (fun v _ => 128 - (intOf v).toNat)
  case atStart => exact ⟨0, Nat.zero_le _, rfl, by rw [ones_zero]; exact HST.out⟩
  case round =>
    obtain ⟨k, hk128, rfl, H⟩ := hrel
    have H := Lib.hid H
    clear HST
    by_cases hk : (k : Int) < 128
    · have hkn : k < 128 := by omega
      obtain ⟨cc, cf⟩ := A8.cell H.out 0 rfl k (by unfold ones; simp; omega)
      have PUT : Hid (Own.St B w0 (wr.setCell ⟨bc, k, none⟩ (.int .u8 255)) (A8 bc 125 (ones 255 128 (k + 1)) :: A8 br 125 (List.replicate 128 0) :: Ps)) := by
        have h := A8.store H.out 0 rfl k 255
        simp only [List.set_cons_zero] at h
        rw [ones_set 255 128 k hkn] at h
        exact h
      clear H
      go_wp2
      go_roundw
      case rel => exact ⟨k + 1, by omega, by go_num, PUT.out⟩
      case measure => simp [intOf]; omega
    · have H2 : Hid (Own.St B w0 wr (A8 bc 125 bl :: A8 br 125 (List.replicate 128 0) :: Ps)) := by
        have h := H.out
        rw [show k = 128 by omega, ones_all, HRE.out] at h
        exact h
      have ROW := Lib.hid (A8.row H2.out 0 rfl)
      have THERE := Lib.hid (A8.there H2.out 1 rfl bl (by rw [HBL.out]; rfl))
      have IB := Lib.hid (info_page _ HBL.out)
      have OB := Lib.hid (one8 bl)
      have LAST := Lib.hid (A8.setAll H2.out 1 rfl bl (by rw [HBL.out]; rfl))
      clear H hk128 HRE HBL
      go_wp2_with (first
        | (refine wpList_load_row rfl 125 (.tmp 1) rfl bc rfl 125 _ (0, 0) _ ROW.out Try.underlying125 rfl IB.out ?_)
        | (refine wpList_store_mid rfl 125 (.tmp 0) (.tmp 9) rfl br 0 (bl.map byteV).toArray rfl rfl THERE.out IB.out OB.out ?_))
      have END := Lib.hid (A8.row LAST.out 1 rfl)
      refine bodyPost_ret (results_cell_row rfl _ _ br 125 _ (0, 0) _ rfl END.out Try.underlying125 rfl IB.out) rfl ?_
      exact ⟨rfl, LAST.out.drop 2⟩

theorem wipe_cells {row : List Bs} (h : Wide row) (k : Nat) (hk : k < row.length) : ((wipeTo row (k + 1)).flatten.map byteV) = ((wipeTo row k).flatten.map byteV).take (k * 128) ++ FlaM.blank.map byteV ++ ((wipeTo row k).flatten.map byteV).drop (k * 128 + 128) := by
  have hl := wipeTo_len row k
  show (((wipeTo row k).set k FlaM.blank).flatten.map byteV) = _
  rw [flat_set k FlaM.blank (wide_wipe h k) (by omega), List.map_append, List.map_append, List.map_take, List.map_drop, show (k + 1) * 128 = k * 128 + 128 by omega]

set_option maxRecDepth 10000 in
set_option maxHeartbeats 4000000 in
/-- the first m pages of a row -/
theorem wipe_st {B : Nat} {w0 w : World} {Ps : List Asn} {r : Option Addr × Nat} {row : List Bs} (H : Own.St B w0 w (pRow 125 r row :: Ps)) (hw : Wide row) (m : Nat) (hm : m ≤ row.length) (hb : row.length ≤ 64) :
    Calls Try.prog 27 #[.slice r.1 m r.2] w fun e w' => e = .returned (.tuple #[]) ∧ Own.St B w0 w' (pRow 125 r (wipeTo row m) :: Ps) := by
  obtain ⟨ao, cap⟩ := r
  obtain ⟨bl, hbl⟩ : ∃ b, b = FlaM.blank := ⟨_, rfl⟩
  have HBL : Hid (bl.length = 128) := by show bl.length = 128; rw [hbl]; exact blank_len
  have HEQ := Lib.hid hbl
  clear hbl
  have HST := Lib.hid H
  have HW := Lib.hid hw
  have hlen := H.rowLen 0 rfl
  have HL := Lib.hid hlen
  have hm64 : m ≤ 64 := by omega
  clear H hw hlen
  go_enter Try.func27, Try.ntmps27
  go_wp2
  go_loopw [5] (fun v wr => ∃ k : Nat, k ≤ m ∧ v = .int .i64 (k : Int) ∧ Own.St B w0 wr (pRow 125 (ao, cap) (wipeTo row k) :: Ps)) (fun v _ => m - (intOf v).toNat)
  case atStart => exact ⟨0, Nat.zero_le _, rfl, HST.out⟩
  case round =>
    obtain ⟨k, hkm, rfl, H⟩ := hrel
    have H := Lib.hid H
    clear HST
    by_cases hk : (k : Int) < (m : Int)
    · have hkn : k < m := by omega
      have ce := erased_st H.out
      rw [← HEQ.out] at ce
      have CE := Lib.hid ce
      clear ce
      go_wp2_with (fail)
      refine CE.out.mono ?_
      clear CE
      rintro e w1 ⟨rfl, h1⟩
      have hl2 := wipeTo_len row k
      obtain ⟨g, rfl, _, _, _⟩ := h1.rowAt 0 rfl (k * 128) (by omega)
      have H1 := Lib.hid h1
      have hlen := (h1.rowLen 0 rfl)
      clear h1
      have THERE : Hid (w1.there g (k * 128) (bl.map byteV).toArray.size) := by
        intro j hj
        have hj2 : j < 128 := by simpa [HBL.out] using hj
        have hjn : k * 128 + j < (wipeTo row k).length * 128 := by omega
        obtain ⟨c1, c2⟩ := H1.out.rowRange 0 rfl (k * 128 + j) hjn
        refine ⟨?_, c2⟩
        rw [c1, List.getElem?_eq_getElem (by omega)]
        rfl
      have PUT : Hid (Own.St B w0 (w1.setCells g (k * 128) (bl.map byteV).toArray.toList) (pRow 125 (some ⟨g, 0, none⟩, cap) (wipeTo row (k + 1)) :: Ps)) := by
        have h := St.rowCells 0 (bl.map byteV) (k * 128) w1 _ _ H1.out rfl (by simp [HBL.out]; omega)
        simp only [List.set_cons_zero, List.length_map, HBL.out] at h
        rw [HEQ.out, ← wipe_cells HW.out k (by omega), ← HEQ.out] at h
        unfold pRow
        rw [wipeTo_len]
        rw [wipeTo_len] at h
        exact h
      have IB := Lib.hid (info_page _ HBL.out)
      have OB := Lib.hid (one8 bl)
      clear H H1 hlen
      go_wp2_with (refine wpList_store_mid rfl 125 (.tmp 11) (.tmp 10) rfl g (k * 128) (bl.map byteV).toArray rfl rfl THERE.out IB.out OB.out ?_)
      go_roundw
      case rel => exact ⟨k + 1, by omega, by go_num, PUT.out⟩
      case measure => simp [intOf]; omega
    · obtain rfl : k = m := by omega
      go_wp2
      go_end0
      exact ⟨rfl, H.out⟩
end Fla
end Go.Proofs.Ytmdphcebmgcdbaa

end
section
namespace Go.Own
open Go.RowKit
/-- copy of bytes onto cells of a row of one's own, as one step of a region that draws -/
theorem step_row_copy {P : Program} {B : Nat} {w0 w : World} {Ps : List Asn} {t8 e8 : TypeId} (h8 : P.underlying t8 = some (.slice e8)) (i8 : (P.info? e8).map (·.size) = some 1) {ops : Array Oper} {o : Oper} {a : Act} {K : Act → World → Prop} {Q : Exit → Act → World → Prop} {E : Prop} (hgd : o.guard = none) (d s : Operand)
    (ho : o.op = .call { callee := .builtin .copy, args := #[d, s], argTypes := #[t8, t8] }) {g n cap size : Nat} {e : TypeId} {xs : List Value} (H : St B w0 w Ps) (i : Nat) (hi : Ps[i]? = some (ARow e size (.slice (some ⟨g, 0, none⟩) n cap) n xs)) (k dn dc : Nat) (hd : a.eval d = .slice (some ⟨g, k, none⟩) dn dc) (hk : k + dn ≤ n * size)
    (bo : Addr) (sn sc : Nat) (news : List UInt8) (hx : a.eval s = .slice (some bo) sn sc) (hl : news.length = min sn dn)
    (hc : ∀ j u, (news.map byteV)[j]? = some u → w.cell? (bo.add j) = some u)
    (h : ∀ w', St B w0 w' (Ps.set i (ARow e size (.slice (some ⟨g, 0, none⟩) n cap) n (xs.take k ++ news.map byteV ++ xs.drop (k + news.length)))) → K (a.put o.dst (goInt news.length)) w') :
    if Region.wanted o (yielded ops a.tmps) = true then Oper.wp P o a w K Q else E := by
  have hw : Region.wanted o (yielded ops a.tmps) = true := by simp [Region.wanted, hgd]
  rw [if_pos hw]
  have hset := St.rowCells i (news.map byteV) k w Ps xs H hi (by rw [List.length_map]; omega)
  rw [List.length_map] at hset
  have hlen := (H.rowLen i hi).1
  have hcells : ∀ j, j < (news.map byteV).length → (w.cell? ⟨g, k + j, none⟩).isSome = true ∧ w.frozen? ⟨g, k + j, none⟩ = false := by
    intro j hj
    rw [List.length_map] at hj
    obtain ⟨h1, h2⟩ := H.rowRange i hi (k + j) (by omega)
    refine ⟨?_, h2⟩
    rw [h1, List.getElem?_eq_getElem (by omega)]
    rfl
  have hrun := run_copy_cells (P := P) w t8 t8 o.type e8 g k dn dc bo sn sc (news.map byteV) h8 i8 (by rw [List.length_map, hl]) hc (fun j hj => (hcells j hj).1) (fun j hj => (hcells j hj).2) (byteV_one _)
  rw [List.length_map] at hrun
  unfold Oper.wp
  simp [execOp, ho, resolve, invoke, builtin, hd, hx, hrun, Result.andThen]
  exact h _ hset
end Go.Own
namespace Go.Proofs.Ytmdphcebmgcdbaa
open Go.RowKit Go.Own
namespace Fla
open Go.FlaM Byt

theorem getD_some {G : List (List Bs)} {n pp : Nat} (h : Shape G n pp) {i : Nat} (hi : i < n) : G[i]? = some (G.getD i []) := by
  have := h.len
  rw [List.getD_eq_getElem?_getD, List.getElem?_eq_getElem (by omega)]
  rfl

set_option maxRecDepth 10000 in
set_option maxHeartbeats 400000 in
theorem apply_erase {B : Nat} {w0 w : World} {Ps : List Asn} {v : Value} {G : List (List Bs)} {n pp : Nat} (H : Own.St B w0 w (PGrid 90 125 v G :: Ps)) (hs : Shape G n pp) (hn : n ≤ 256) (hp : 1 ≤ pp ∧ pp ≤ 64) (seg : Nat) (hseg : seg < n) (cs : List Value) (hc1 : cs[1]? = some (.int .i64 (seg : Int))) (hc0 : cs[0]? = some (.bool true)) (ext : Int) (he : i64B ext) :
    Calls Try.prog 51 #[.agg cs.toArray, v, .int .i64 ext] w fun e w' => e = .returned (.tuple #[]) ∧ Own.St B w0 w' (PGrid 90 125 v (clearTo G seg (min ext.toNat pp)) :: Ps) := by
  have hsome := getD_some hs hseg
  have HW := Lib.hid (wide_of hs seg hseg)
  have hrl := hs.rows seg hseg
  have hgl := hs.len
  have HCL := Lib.hid (clear_row G seg (min ext.toNat pp) (by omega))
  obtain ⟨row, hrow⟩ : ∃ r, r = G.getD seg [] := ⟨_, rfl⟩
  rw [← hrow] at hsome hrl HW HCL
  have hbox := (H.boxV 130 cs)
  have c0 := (hbox.cellV 0 rfl 0 hc0).1
  have c1 := (hbox.cellV 0 rfl 1 hc1).1
  obtain ⟨g, c, ⟨ao, cap⟩, Qs, rfl, cg, hR, put⟩ := (hbox.swap2).pRowAt seg row hsome
  have HR := Lib.hid hR
  have HPUT := Lib.hid put
  obtain ⟨n0, hn0⟩ : ∃ m, m = ext.toNat := ⟨_, rfl⟩
  obtain ⟨m, hm⟩ : ∃ m, m = min n0 pp := ⟨_, rfl⟩
  rw [← hn0, ← hm] at HCL ⊢
  have hrlen := hR.rowLen 0 rfl
  obtain ⟨b, rfl, _, _, _⟩ := hR.rowAt 0 rfl 0 (by omega)
  obtain ⟨l, hl⟩ : ∃ l, l = G.length := ⟨_, rfl⟩
  have hsl : seg < l := by omega
  have hl2 : l ≤ 256 := by omega
  rw [← hl] at HPUT ⊢
  obtain ⟨k, hk⟩ : ∃ k, k = row.length := ⟨_, rfl⟩
  have CG : Hid ((w.alloc (.cells cs.toArray 130)).cell? ⟨g, seg, none⟩ = some (.slice (some ⟨b, 0, none⟩) k cap)) := by rw [hk]; exact cg
  have cg2 := CG.out
  have hkp : k = pp := by omega
  have hkc : k ≤ cap := by omega
  have hmk : m ≤ k := by omega
  have hmc : m ≤ cap := by omega
  have HK := Lib.hid hk
  have hcapM : cap ≤ maxLen := hrlen.2.2.1
  have hn0b : n0 ≤ 9223372036854775807 := by have := he.2; omega
  have hmax : ∀ wx, (Builtin.max_ #[3, 3] 3 #[.int .i64 ext, .int .i64 0]).run Try.prog wx = .ok (.int .i64 (n0 : Int)) wx := by
    intro wx
    rw [show (n0 : Int) = max ext 0 by omega]
    simp [Builtin.max_, Builtin.max2, go_sem]
    try omega
  have hmin : ∀ wx, (Builtin.min_ #[3, 3] 3 #[.int .i64 (n0 : Int), .int .i64 (k : Int)]).run Try.prog wx = .ok (.int .i64 (m : Int)) wx := by
    intro wx
    rw [show (m : Int) = min (n0 : Int) (k : Int) by omega]
    simp [Builtin.min_, Builtin.min2, go_sem]
    try omega
  have CW := wipe_st hR HW.out m (by omega) (by omega)
  have CW2 := Lib.hid CW
  clear hbox hR put hsome hrl hgl hn0 hm hl hk cg CG hc0 hc1 H CW hrlen hrow HW HR hs he hkp
  unfold maxLen at hcapM
  go_enter Try.func51, Try.ntmps51
  go_wp2_with (fail)
  refine CW2.out.mono ?_
  rintro e w1 ⟨rfl, h1⟩
  have H1 := Lib.hid (HPUT.out w1 _ (wipeTo_len row m) h1)
  clear h1
  go_wp2
  refine bodyPost_ret (results_none rfl _ _ _) rfl ?_
  exact ⟨rfl, by rw [HCL.out]; exact H1.out.drop2⟩

theorem flat_cells {row : List Bs} (h : Wide row) (k : Nat) (hk : k < row.length) (b : Bs) (m : Nat) (hb : b.length = 128) (hm : m ≤ 128) :
    ((row.set k (b.take m ++ (row.getD k []).drop m)).flatten.map byteV) = (row.flatten.map byteV).take (k * 128) ++ (b.take m).map byteV ++ (row.flatten.map byteV).drop (k * 128 + m) := by
  rw [flat_set k _ h hk, List.map_append, List.map_append, List.map_append, ← flat_page k h hk]
  have hfl := flat_len h
  obtain ⟨D, hD⟩ : ∃ D, D = row.flatten.drop (k * 128) := ⟨_, rfl⟩
  have hDl : 128 ≤ D.length := by rw [hD, List.length_drop, hfl]; omega
  have e1 : row.flatten.drop (k * 128 + m) = D.drop m := by rw [hD, List.drop_drop]
  have e2 : row.flatten.drop ((k + 1) * 128) = D.drop 128 := by rw [hD, List.drop_drop, show k * 128 + 128 = (k + 1) * 128 by omega]
  have e3 : D.drop m = (D.take 128).drop m ++ D.drop 128 := by
    have h1 : (D.take 128 ++ D.drop 128).drop m = (D.take 128).drop m ++ D.drop 128 := List.drop_append_of_le_length (by rw [List.length_take]; omega)
    rw [List.take_append_drop] at h1
    exact h1
  rw [← hD, ← List.map_drop, e1, e2, e3, List.map_append, List.map_take]
  simp only [List.append_assoc]

set_option maxRecDepth 10000 in
set_option maxHeartbeats 800000 in
theorem apply_prog {B : Nat} {w0 w : World} {Ps : List Asn} {v : Value} {G : List (List Bs)} {n pp : Nat} (H : Own.St B w0 w (PGrid 90 125 v G :: Ps)) (hs : Shape G n pp) (hn : n ≤ 256) (hp : 1 ≤ pp ∧ pp ≤ 64) (seg page : Nat) (hseg : seg < n) (hpage : page < pp) (cs : List Value) (b : Bs) (hb : b.length = 128) (hc0 : cs[0]? = some (.bool false)) (hc1 : cs[1]? = some (.int .i64 (seg : Int))) (hc2 : cs[2]? = some (.int .i64 (page : Int))) (hc3 : ∀ j, j < 128 → cs[3 + j]? = some (byteV (b.getD j 0))) (ext : Int) (he : i64B ext) :
    Calls Try.prog 51 #[.agg cs.toArray, v, .int .i64 ext] w fun e w' => e = .returned (.tuple #[]) ∧ Own.St B w0 w' (PGrid 90 125 v (setPage G seg page (b.take (min ext.toNat 128) ++ (pageAt G seg page).drop (min ext.toNat 128))) :: Ps) := by
  have hsome := getD_some hs hseg
  have HW := Lib.hid (wide_of hs seg hseg)
  have hrl := hs.rows seg hseg
  have hgl := hs.len
  obtain ⟨row, hrow⟩ : ∃ r, r = G.getD seg [] := ⟨_, rfl⟩
  have HRW := Lib.hid hrow
  unfold pageAt setPage
  rw [← hrow] at hsome hrl HW ⊢
  have hbox := (H.boxV 130 cs)
  have c0 := (hbox.cellV 0 rfl 0 hc0).1
  have c1 := (hbox.cellV 0 rfl 1 hc1).1
  have c2 := (hbox.cellV 0 rfl 2 hc2).1
  have CB := Lib.hid (fun (j : Nat) (hj : j < 128) => (hbox.cellV 0 rfl (3 + j) (hc3 j hj)).1)
  obtain ⟨g, c, ⟨ao, cap⟩, Qs, rfl, cg, hR, put⟩ := (hbox.swap2).pRowAt seg row hsome
  have HPUT := Lib.hid put
  obtain ⟨n0, hn0⟩ : ∃ m, m = ext.toNat := ⟨_, rfl⟩
  obtain ⟨m, hm⟩ : ∃ m, m = min n0 128 := ⟨_, rfl⟩
  rw [← hn0, ← hm]
  have hrlen := hR.rowLen 0 rfl
  obtain ⟨bb, rfl, h1x, h2x, h3x⟩ := hR.rowAt 0 rfl 0 (by omega)
  have HR := Lib.hid hR
  clear h1x h2x h3x
  obtain ⟨l, hl⟩ : ∃ l, l = G.length := ⟨_, rfl⟩
  have hsl : seg < l := by omega
  have hl2 : l ≤ 256 := by omega
  rw [← hl] at HPUT ⊢
  obtain ⟨k, hk⟩ : ∃ k, k = row.length := ⟨_, rfl⟩
  have CG : Hid ((w.alloc (.cells cs.toArray 130)).cell? ⟨g, seg, none⟩ = some (.slice (some ⟨bb, 0, none⟩) k cap)) := by rw [hk]; exact cg
  have cg2 := CG.out
  have hkc : k ≤ cap := by omega
  have hpk : page < k := by omega
  have hpk2 : k ≤ 64 := by omega
  have hm128 : m ≤ 128 := by omega
  have hn0b : n0 ≤ 9223372036854775807 := by have := he.2; omega
  have HK := Lib.hid hk
  have HB := Lib.hid hb
  have HM := Lib.hid hm
  have hmax : ∀ wx, (Builtin.max_ #[3, 3] 3 #[.int .i64 ext, .int .i64 0]).run Try.prog wx = .ok (.int .i64 (n0 : Int)) wx := by
    intro wx
    rw [show (n0 : Int) = max ext 0 by omega]
    simp [Builtin.max_, Builtin.max2, go_sem]
    try omega
  have hmin : ∀ wx, (Builtin.min_ #[3, 3] 3 #[.int .i64 (n0 : Int), .int .i64 128]).run Try.prog wx = .ok (.int .i64 (m : Int)) wx := by
    intro wx
    rw [show (m : Int) = min (n0 : Int) 128 by omega]
    simp [Builtin.min_, Builtin.min2, go_sem]
    try omega
  obtain ⟨news, hnews⟩ : ∃ x, x = b.take m := ⟨_, rfl⟩
  have HN := Lib.hid hnews
  have HNL : Hid (news.length = m) := by show news.length = m; rw [hnews, List.length_take]; omega
  have HC : Hid (∀ j u, (news.map byteV)[j]? = some u → (w.alloc (.cells cs.toArray 130)).drew.cell? ((⟨w.heap.size, 3, none⟩ : Addr).add j) = some u) := by
    intro j u hu
    have hj := (List.getElem?_eq_some_iff.1 hu).1
    rw [List.length_map, HNL.out] at hj
    rw [add_of]
    have := CB.out j (by omega)
    refine this.trans ?_
    rw [← hu, hnews]
    have hjb : j < b.length := by omega
    simp [byteV, hj, hjb]
  clear hbox hR put hsome hrl hgl hn0 hm hl hk cg CG hc0 hc1 hc2 hc3 H hrlen hrow hs he hnews hb hp
  go_enter Try.func51, Try.ntmps51
  go_wp2_with (fail)
  have hm128i : (m : Int) ≤ 128 := by omega
  go_region_law (refine step_row_copy Try.underlying56 info8 rfl (.tmp 27) (.tmp 31) rfl HR.out.drew 0 rfl (page * 128) 128 128 (by simp [Act.eval, Act.put]) (by rw [← HK.out]; omega) ⟨w.heap.size, 3, none⟩ m 128 news (by simp [Act.eval, Act.put]) (by rw [HNL.out]; omega) HC.out ?_; intro w2 h2; simp only [List.set_cons_zero] at h2; rw [HNL.out] at h2; rw [HNL.out]; have H2 := Lib.hid h2; clear h2)
  all_goals
    go_simp
    go_wp2
    go_end0
    refine ⟨rfl, ?_⟩
    have h := H2.out
    rw [HN.out, ← flat_cells HW.out page (by rw [← HK.out]; exact hpk) b m HB.out hm128] at h
    have h3 := HPUT.out w2 (row.set page (b.take m ++ (row.getD page []).drop m)) (by rw [List.length_set]) (by unfold pRow; rw [List.length_set]; exact h)
    exact h3.drop2
end Fla
end Go.Proofs.Ytmdphcebmgcdbaa

end
section
namespace Go.Proofs.Ytmdphcebmgcdbaa
open Go.RowKit Go.Own
namespace Fla
open Go.FlaM Byt

/-- the bytes that an operation carries -/
def wOf (a : FlaM.Act) : Bs := if a.page < 0 then List.replicate 128 0 else a.b
def opCells (a : FlaM.Act) : List Value := [.bool (decide (a.page < 0)), .int .i64 (a.seg : Int), .int .i64 (a.page.toNat : Int)] ++ (wOf a).map byteV
theorem wOf_len {n pp : Nat} {a : FlaM.Act} (h : ActOk n pp a) : (wOf a).length = 128 := by
  unfold wOf
  split
  · simp
  · rcases h.2 with ⟨_, _, h3⟩ | ⟨h1, _⟩
    · exact h3
    · omega
theorem opCells_len {n pp : Nat} {a : FlaM.Act} (h : ActOk n pp a) : (opCells a).length = 131 := by
  unfold opCells
  rw [List.length_append, List.length_map, wOf_len h]
  rfl
theorem apply_st {B : Nat} {w0 w : World} {Ps : List Asn} {v : Value} {G : List (List Bs)} {n pp : Nat} (H : Own.St B w0 w (PGrid 90 125 v G :: Ps)) (hs : Shape G n pp) (hn : n ≤ 256) (hp : 1 ≤ pp ∧ pp ≤ 64) (a : FlaM.Act) (ha : ActOk n pp a) (ext : Int) (he : i64B ext) :
    Calls Try.prog 51 #[.agg (opCells a).toArray, v, .int .i64 ext] w fun e w' => e = .returned (.tuple #[]) ∧ Own.St B w0 w' (PGrid 90 125 v (doOne pp G a ext) :: Ps) := by
  unfold doOne
  by_cases h : 0 ≤ a.page
  · rw [if_pos h]
    rcases ha.2 with ⟨h1, h2, h3⟩ | ⟨h1, _⟩
    · have hw : wOf a = a.b := by unfold wOf; rw [if_neg (by omega)]
      exact apply_prog H hs hn hp a.seg a.page.toNat ha.1 (by omega) (opCells a) a.b h3 (by simp [opCells]; omega) rfl rfl (fun j hj => by
        unfold opCells
        rw [hw, Nat.add_comm]
        simp [h3, hj]) ext he
    · omega
  · rw [if_neg h]
    exact apply_erase H hs hn hp a.seg ha.1 (opCells a) rfl (by simp [opCells]; omega) ext he

abbrev flCells (pp : Nat) (vN vS vP vW : Value) (n : Nat) (off armed : Bool) (lf : Int) : List Value := [.int .i64 (pp : Int), vN, vS, vP, vW, .int .i64 (n : Int), .bool off, .bool armed, .int .i64 lf]

set_option maxHeartbeats 1600000 in
theorem begin_st {B : Nat} {w0 w : World} {Ps : List Asn} {p pp : Nat} {vN vS vP vW : Value} {n : Nat} {off armed : Bool} {lf : Int} (H : Own.St B w0 w (AVals p 89 (flCells pp vN vS vP vW n off armed lf) :: Ps)) (hn : n ≤ 1000000) (hl : i64B lf) (hle : armed = true → 0 ≤ lf) :
    Calls Try.prog 33 #[ptr p] w fun e w' => if (off || (armed && decide (lf = 0))) = true then e = .returned (errV 6) ∧ Own.St B w0 w' (AVals p 89 (flCells pp vN vS vP vW n true armed lf) :: Ps)
      else e = .returned (errV 0) ∧ Own.St B w0 w' (AVals p 89 (flCells pp vN vS vP vW (n + 1) false armed (if armed then lf - 1 else lf)) :: Ps) := by
  obtain ⟨l1, l2⟩ := hl
  have c6 := (H.cellV 0 rfl 6 rfl)
  have c7 := (H.cellV 0 rfl 7 rfl)
  have c8 := (H.cellV 0 rfl 8 rfl)
  have c5 := (H.cellV 0 rfl 5 rfl)
  have H0 := Lib.hid H
  clear H
  go_enter Try.func33, Try.ntmps33
  cases off <;> cases armed
  · have H1 := Lib.hid (H0.out.storeV 0 rfl 5 (.int .i64 ((n : Int) + 1)))
    clear hle
    go_wp2
    go_ret
    simp only
    exact ⟨rfl, H1.out⟩
  · have hle2 := hle rfl
    clear hle
    by_cases hz : lf = 0
    · have H1 := Lib.hid (H0.out.storeV 0 rfl 6 (.bool true))
      go_wp2
      go_ret
      subst hz
      simp only
      exact ⟨rfl, H1.out⟩
    · have h1 := (H0.out.storeV 0 rfl 8 (.int .i64 (lf - 1)))
      have H1 := Lib.hid (h1.storeV 0 rfl 5 (.int .i64 ((n : Int) + 1)))
      have c5 := (h1.cellV 0 rfl 5 rfl)
      clear h1
      go_wp2
      go_ret
      simp only
      exact ⟨rfl, H1.out⟩
  · clear hle
    go_wp2
    go_ret
    simp only
    exact ⟨rfl, H0.out⟩
  · have hle2 := hle rfl
    clear hle
    by_cases hz : lf = 0
    · have H1 := Lib.hid (H0.out.storeV 0 rfl 6 (.bool true))
      go_wp2
      go_ret
      simp only
      subst hz
      exact ⟨rfl, H1.out⟩
    · go_wp2
      go_ret
      simp only
      exact ⟨rfl, H0.out⟩

theorem retB {a b : Bool} (h : a = b) : Ending.returned (.bool a) = .returned (.bool b) := by rw [h]
theorem hasSeg_st {B : Nat} {w0 w : World} {Ps : List Asn} {p pp nS cN : Nat} {aN : Option Addr} {vS vP vW : Value} {n : Nat} {off armed : Bool} {lf : Int} (H : Own.St B w0 w (AVals p 89 (flCells pp (.slice aN nS cN) vS vP vW n off armed lf) :: Ps)) (seg : Int) :
    Calls Try.prog 88 #[ptr p, .int .i64 seg] w fun e w' => e = .returned (.bool (decide (0 ≤ seg ∧ seg < (nS : Int)))) ∧ w' = w := by
  have c1 := (H.cellV 0 rfl 1 rfl).1
  clear H
  go_enter Try.func88, Try.ntmps88
  by_cases h0 : 0 ≤ seg
  · by_cases h1 : seg < (nS : Int)
    · go_wp2
      go_ret
      exact ⟨retB (by first | (simp; done) | (simp; omega) | (rw [Bool.eq_iff_iff]; simp; omega)), rfl⟩
    · go_wp2
      go_ret
      exact ⟨retB (by first | (simp; done) | (simp; omega) | (rw [Bool.eq_iff_iff]; simp; omega)), rfl⟩
  · go_wp2
    go_ret
    exact ⟨retB (by first | (simp; done) | (simp; omega) | (rw [Bool.eq_iff_iff]; simp; omega)), rfl⟩
theorem hasPage_st {B : Nat} {w0 w : World} {Ps : List Asn} {p pp nS cN : Nat} {aN : Option Addr} {vS vP vW : Value} {n : Nat} {off armed : Bool} {lf : Int} (H : Own.St B w0 w (AVals p 89 (flCells pp (.slice aN nS cN) vS vP vW n off armed lf) :: Ps)) (seg page : Int) :
    Calls Try.prog 73 #[ptr p, .int .i64 seg, .int .i64 page] w fun e w' => e = .returned (.bool (decide (0 ≤ seg ∧ seg < (nS : Int) ∧ 0 ≤ page ∧ page < (pp : Int)))) ∧ w' = w := by
  have CS := Lib.hid (hasSeg_st H seg)
  have c0 := (H.cellV 0 rfl 0 rfl).1
  clear H
  go_enter Try.func73, Try.ntmps73
  go_wp2_with (fail)
  refine CS.out.mono ?_
  clear CS
  by_cases hs : 0 ≤ seg ∧ seg < (nS : Int)
  · rw [decide_eq_true hs]
    rintro e w1 ⟨rfl, rfl⟩
    by_cases h0 : 0 ≤ page
    · by_cases h1 : page < (pp : Int)
      · go_wp2
        go_ret
        exact ⟨retB (by first | (simp; done) | (simp; omega) | (rw [Bool.eq_iff_iff]; simp; omega)), rfl⟩
      · go_wp2
        go_ret
        exact ⟨retB (by first | (simp; done) | (simp; omega) | (rw [Bool.eq_iff_iff]; simp; omega)), rfl⟩
    · go_wp2
      go_ret
      exact ⟨retB (by first | (simp; done) | (simp; omega) | (rw [Bool.eq_iff_iff]; simp; omega)), rfl⟩
  · rw [decide_eq_false hs]
    rintro e w1 ⟨rfl, rfl⟩
    go_wp2
    go_ret
    exact ⟨retB (by first | (simp; done) | (simp; omega) | (rw [Bool.eq_iff_iff]; simp; omega)), rfl⟩
end Fla
end Go.Proofs.Ytmdphcebmgcdbaa

end
section
namespace Go.Proofs.Ytmdphcebmgcdbaa
open Go.RowKit Go.Own
namespace Fla
open Go.FlaM Byt

theorem range_map (l : List Value) (n : Nat) (h : l.length = n) : (List.range n).map (fun i => l.getD i undef) = l := by
  apply List.ext_getElem
  · simp [h]
  · intro i h1 h2
    simp [List.getD, h2]
theorem zero_op : (Try.prog.info? 130).map (fun i => (i.size, i.bytes)) = some (131, 152) := by kernel_rfl
theorem slot_op (f : Nat → Value) : Try.prog.builtSlice 130 1 [(0, .agg ((List.range 131).map f).toArray)] = some ((List.range 131).map f).toArray := by kernel_rfl
theorem run_slot_op (cs : List Value) (hl : cs.length = 131) (w : World) : (Instr.buildSlice 87 1 #[(0, .agg cs.toArray)]).run Try.prog w = .ok (.slice (some ⟨w.heap.size, 0, none⟩) 1 1) (w.alloc (.cells cs.toArray 130)) := by
  have h : Try.prog.builtSlice 130 1 [(0, .agg cs.toArray)] = some cs.toArray := by
    have h := slot_op (fun i => cs.getD i undef)
    rw [range_map cs 131 hl] at h
    exact h
  unfold Program.builtSlice at h
  cases hie : Try.prog.info? 130 with
  | none => simp [hie] at h
  | some ie =>
    simp only [hie] at h
    cases hz : ie.zero with
    | none => simp [hz] at h
    | some z =>
      simp only [hz] at h
      by_cases hc : 1 * ie.size > 2 ^ 24 ∨ 1 * ie.size = 0
      · simp only [Nat.one_mul] at hc
        simp at h
        omega
      · rw [if_neg hc] at h
        have h1 : ¬ (1 * ie.size > 2 ^ 24) := fun h' => hc (Or.inl h')
        have h2 : ¬ (1 * ie.size = 0) := fun h' => hc (Or.inr h')
        simp only [Nat.one_mul] at h1 h2 h
        simp [Instr.buildSlice, run_underlying Try.underlying87, sizeOf, typeInfo, zeroValue, hie, hz, newRow, h1, h2, h]
theorem one_op {n pp : Nat} {a : FlaM.Act} : ∀ u ∈ opCells a, u.oneCell' = true := by
  intro u hu
  unfold opCells at hu
  rcases List.mem_append.1 hu with h | h
  · simp at h
    rcases h with rfl | rfl | rfl <;> rfl
  · exact byteV_one _ u h
theorem load_op (cs : List Value) (hl : cs.length = 131) {w : World} {b o : Nat} (hr : w.rangeAt b o cs) : (Instr.loadAt 130 (.pointer (some ⟨b, o, none⟩))).run Try.prog w = .ok (.agg cs.toArray) w := by
  obtain ⟨i, h1, h2⟩ := Option.map_eq_some_iff.1 zero_op
  simp only [Prod.mk.injEq] at h2
  exact run_loadAt_mid (P := Try.prog) w b o 130 cs _ hr Try.underlying130 rfl (by rw [h1, hl]; simp [h2.1])
theorem load_opE (cs : List Value) (hl : cs.length = 131) {o : Oper} {x : Tmp} (ho : o.op = .load 130 (.tmp x)) {b k : Nat} (ρ : Operand → Value) {w : World} (hr : w.rangeAt b k cs) (h0 : ρ (.tmp x) = .pointer (some ⟨b, k, none⟩)) : (execOp ρ o).run Try.prog w = .ok (.value (.agg cs.toArray)) w := by
  have := load_op cs hl hr
  unfold execOp
  simp only [ho, h0, Sem.run_bind, this, Result.andThen_ok, Sem.run_pure]
theorem info_op : (Try.prog.info? 130).map (fun i => (i.zero.map (·.cells.size), i.size, i.bytes)) = some (some 131, 131, 152) := by kernel_rfl
theorem range_box {B : Nat} {w0 w : World} {Ps : List Asn} {b : Nat} {t : TypeId} {cs : List Value} (H : Own.St B w0 w Ps) (i : Nat) (hi : Ps[i]? = some (AVals b t cs)) : w.rangeAt b 0 cs := fun j v hv => by
  rw [Nat.zero_add]
  exact (H.cellV i hi j hv).1
/-- one operation onto a list of them -/
theorem run_op_append {B : Nat} {w0 w : World} {Ps : List Asn} (H : Own.St B w0 w Ps) (i : Nat) {v : Value} {n : Nat} {xs : List Value} (hi : Ps[i]? = some (ARow 130 131 v n xs)) (ty : TypeId)
    (bo : Addr) (ys : List Value) (hy : ys.length = 131) (hc : ∀ j u, ys[j]? = some u → w.cell? (bo.add j) = some u) (h1 : ∀ u ∈ ys, u.oneCell' = true) (b1 : n + 1 ≤ 20000) :
    ∃ v' w', (Builtin.append_ #[87, 87] ty #[v, .slice (some bo) 1 1]).run Try.prog w = .ok v' w' ∧ Own.St B w0 w' (Ps.set i (ARow 130 131 v' (n + 1) (xs ++ ys))) := by
  obtain ⟨i0, hi0, hz⟩ := Option.map_eq_some_iff.1 info_op
  simp only [Prod.mk.injEq] at hz
  obtain ⟨hz0, hz1, hz2⟩ := hz
  obtain ⟨z, hz3, hz4⟩ := Option.map_eq_some_iff.1 hz0
  obtain ⟨S, hS, _, put⟩ := H.at i hi
  obtain ⟨v', w', T', hr, hrow, hst⟩ := run_append_row (P := Try.prog) w 87 ty 130 i0 z 131 152 Try.underlying87 hi0 hz3 hz1 hz2 hz4 (by decide) v n xs hS (some bo) 1 1 ys (by intro h; cases h) (by rw [hy]) (fun a ha j u hu => by cases ha; exact hc j u hu) h1 (by unfold maxLen; omega) (by omega)
  exact ⟨v', w', hr, put T' w' (ARow 130 131 v' (n + 1) (xs ++ ys)) hrow hst⟩
theorem slot_opE {o : Oper} {x : Tmp} (ho : o.op = .buildSlice 87 1 #[(0, .tmp x)]) (cs : List Value) (hl : cs.length = 131) (ρ : Operand → Value) (w : World) (h0 : ρ (.tmp x) = .agg cs.toArray) : (execOp ρ o).run Try.prog w = .ok (.value (.slice (some ⟨w.heap.size, 0, none⟩) 1 1)) (w.alloc (.cells cs.toArray 130)) := by
  have := run_slot_op cs hl w
  unfold execOp
  simp [ho, h0, this]
theorem app_E {o : Oper} {s x : Tmp} {t1 t2 : TypeId} (ho : o.op = .call { callee := .builtin .append, args := #[.tmp s, .tmp x], argTypes := #[t1, t2] }) {ρ : Operand → Value} {w w' : World} {v vs vx : Value} (h0 : ρ (.tmp s) = vs) (h1 : ρ (.tmp x) = vx) (hrun : (Builtin.append_ #[t1, t2] o.type #[vs, vx]).run Try.prog w = .ok v w') : (execOp ρ o).run Try.prog w = .ok (.value v) w' := by
  unfold execOp
  simp [ho, h0, h1, resolve, invoke, builtin, hrun, Result.andThen]
theorem store_E {o : Oper} {x y : Tmp} {t : TypeId} (ho : o.op = .store t (.tmp x) (.tmp y)) {ρ : Operand → Value} {w w' : World} {a v : Value} (h0 : ρ (.tmp x) = a) (h1 : ρ (.tmp y) = v) (hrun : (Instr.storeAt t a v).run Try.prog w = .ok () w') : (execOp ρ o).run Try.prog w = .ok .skip w' := by
  unfold execOp
  simp [ho, h0, h1, hrun, Result.andThen]

set_option maxRecDepth 10000 in
set_option maxHeartbeats 800000 in
theorem perform_st {B : Nat} {w0 w : World} {Ps : List Asn} {p pp nn : Nat} {vN vS vP vW : Value} {G : List (List Bs)} {L : List FlaM.Act} {n : Nat} {off armed : Bool} {lf : Int}
    (H : Own.St B w0 w (AVals p 89 (flCells pp vN vS vP vW n off armed lf) :: PGrid 90 125 vN G :: ARow 130 131 vP L.length (L.flatMap opCells) :: Ps))
    (hs : Shape G nn pp) (hn : nn ≤ 256) (hp : 1 ≤ pp ∧ pp ≤ 64) (a : FlaM.Act) (ha : ActOk nn pp a) (hL : L.length ≤ 10000) :
    Calls Try.prog 74 #[ptr p, .agg (opCells a).toArray] w fun e w' => e = .returned (.tuple #[]) ∧ ∃ vP', Own.St B w0 w' (AVals p 89 (flCells pp vN vS vP' vW n off armed lf) :: PGrid 90 125 vN (doOne pp G a 9223372036854775807) :: ARow 130 131 vP' (L ++ [a]).length ((L ++ [a]).flatMap opCells) :: Ps) := by
  obtain ⟨cs, hcs⟩ : ∃ c, c = opCells a := ⟨_, rfl⟩
  have hcl : cs.length = 131 := by rw [hcs]; exact opCells_len ha
  have HONE : Hid (∀ u ∈ cs, u.oneCell' = true) := by rw [hcs]; exact one_op (n := nn) (pp := pp)
  have hbox := H.boxV 130 cs
  obtain ⟨bx, hbx⟩ : ∃ b, b = w.heap.size := ⟨_, rfl⟩
  obtain ⟨W1, hW1⟩ : ∃ W, W = w.alloc (.cells cs.toArray 130) := ⟨_, rfl⟩
  rw [← hbx, ← hW1] at hbox
  have H1 := Lib.hid hbox
  have HW1 := Lib.hid hW1
  have HBX := Lib.hid hbx
  have APP : Hid (∀ wx, Below W1.heap.size W1 wx → Calls Try.prog 51 #[.agg cs.toArray, vN, .int .i64 9223372036854775807] wx fun e w' => e = .returned (.tuple #[]) ∧ Own.St B w0 w' (PGrid 90 125 vN (doOne pp G a 9223372036854775807) :: AVals bx 130 cs :: AVals p 89 (flCells pp vN vS vP vW n off armed lf) :: ARow 130 131 vP L.length (L.flatMap opCells) :: Ps)) := by
    intro wx hwx
    have h1 := (H1.out.later hwx).front 2 rfl
    simp only [List.eraseIdx_cons_succ, List.eraseIdx_cons_zero] at h1
    rw [hcs]
    rw [hcs] at h1
    exact apply_st h1 hs hn hp a ha 9223372036854775807 (by unfold i64B; omega)
  have R1 : Hid (∀ wx, Below W1.heap.size W1 wx → wx.rangeAt bx 0 cs) := fun wx hwx => range_box (H1.out.later hwx) 0 rfl
  have C1 : Hid (∀ wx, Below W1.heap.size W1 wx → wx.cell? ⟨p, 1, none⟩ = some vN) := fun wx hwx => ((H1.out.later hwx).cellV 1 rfl 1 rfl).1
  have HCL := Lib.hid hcl
  have hfm : Hid ((L ++ [a]).flatMap opCells = L.flatMap opCells ++ cs) := by
    show (L ++ [a]).flatMap opCells = L.flatMap opCells ++ cs
    rw [List.flatMap_append, hcs]; simp
  rw [← hcs]
  have hll : Hid ((L ++ [a]).length = L.length + 1) := by show (L ++ [a]).length = L.length + 1; simp
  obtain ⟨xs, hxs⟩ : ∃ x, x = L.flatMap opCells := ⟨_, rfl⟩
  obtain ⟨k, hk⟩ : ∃ x, x = L.length := ⟨_, rfl⟩
  rw [← hxs, ← hk] at APP
  rw [← hxs] at hfm
  rw [← hk] at hll hL
  clear hcs hcl hbox hbx hW1 H hs hn hp ha hxs hk H1
  go_enter Try.func74, Try.ntmps74
  go_wp2_with (fail)
  rw [← HBX.out, ← HW1.out]
  clear HBX HW1
  refine wp_laxW_list 5 (by kernel_rfl) (by kernel_rfl) (by kernel_rfl) (by kernel_rfl) (by kernel_rfl) ?_
  simp only [List.take_succ_cons, List.take_zero, List.drop_succ_cons, List.drop_zero]
  refine wpL_run1 (x := .tmp 3) (.pointer (some ⟨bx, 0, none⟩)) (.agg cs.toArray) (by kernel_rfl) (by kernel_rfl) (by kernel_rfl) (by kernel_rfl) (by kernel_rfl) (fun wx ρ hwx h0 hc => load_opE cs HCL.out rfl ρ (R1.out wx hwx) h0) ?_
  refine wpL_move (.pointer (some ⟨p, 0, none⟩)) rfl (by kernel_rfl) (by kernel_rfl) (by kernel_rfl) (by kernel_rfl) ?_
  refine wpL_run1 (x := .tmp 5) (.pointer (some ⟨p, 0, none⟩)) (.pointer (some ⟨p, 0, none⟩)) (by kernel_rfl) (by kernel_rfl) (by kernel_rfl) (by kernel_rfl) (by kernel_rfl) (fun wx ρ hwx h0 hc => by simp [go_sem, h0]) ?_
  refine wpL_run1 (x := .tmp 6) (.pointer (some ⟨p, 0, none⟩)) (.pointer (some ⟨p, 1, none⟩)) (by kernel_rfl) (by kernel_rfl) (by kernel_rfl) (by kernel_rfl) (by kernel_rfl) (fun wx ρ hwx h0 hc => by simp [go_sem, h0]) ?_
  refine wpL_run1 (x := .tmp 7) (.pointer (some ⟨p, 1, none⟩)) vN (by kernel_rfl) (by kernel_rfl) (by kernel_rfl) (by kernel_rfl) (by kernel_rfl) (fun wx ρ hwx h0 hc => by simp [go_sem, h0, C1.out wx hwx]) ?_
  refine wpL_end (by kernel_rfl) (fun w2 hw2 => ?_)
  simp only [FinL, setL, List.set_cons_zero, List.set_cons_succ]
  intro _
  have CA := Lib.hid (APP.out w2 hw2)
  clear APP R1 C1 hw2
  go_wp2_with (fail)
  refine CA.out.mono ?_
  clear CA
  rintro e w3 ⟨rfl, h3⟩
  have c3 := (h3.cellV 2 rfl 3 rfl).1
  have H3 := Lib.hid h3
  have LD := load_op cs HCL.out (range_box h3.drew 1 rfl)
  have BS := run_slot_op cs HCL.out w3.drew
  have h4 := (h3.drew).alloc (.cells cs.toArray 130)
  have CN : Hid (∀ j u, cs[j]? = some u → (w3.drew.alloc (.cells cs.toArray 130)).cell? ((⟨w3.heap.size, 0, none⟩ : Addr).add j) = some u) := by
    intro j u hu
    rw [add_of, Nat.zero_add]
    exact cell_of_block (heap_alloc_new w3.drew _) (by simpa using hu)
  have H4 := Lib.hid h4
  obtain ⟨v5, w5, hr5, h5⟩ := run_op_append h4 3 rfl 87 ⟨w3.heap.size, 0, none⟩ cs HCL.out CN.out HONE.out (by omega)
  simp only [List.set_cons_zero, List.set_cons_succ] at h5
  obtain ⟨ao5, cap5, rfl⟩ := h5.rowForm 3 rfl
  have q5 := (h5.cellV 2 rfl 3 rfl)
  have H6 := Lib.hid (h5.storeV 2 rfl 3 (.slice ao5 (k + 1) cap5))
  have HR5 := Lib.hid hr5
  have Q5 := Lib.hid q5
  have C3a := Lib.hid c3
  have C3b : Hid ((w3.drew.alloc (.cells cs.toArray 130)).cell? ⟨p, 3, none⟩ = some vP) := (h4.cellV 2 rfl 3 rfl).1
  have HLD : Hid (w3.drew.rangeAt bx 0 cs) := range_box H3.out.drew 1 rfl
  clear h3 h4 h5 q5 hr5 c3 LD BS
  go_wp2_with (fail)
  refine wp_chain_list [6, 7, 10] (fun j wx => wx = match j with | 0 => w3.drew | 1 => w3.drew.alloc (.cells cs.toArray 130) | 2 => w5 | _ => w5.setCell ⟨p, 3, none⟩ (.slice ao5 (k + 1) cap5)) (by kernel_rfl) (by kernel_rfl) (by kernel_rfl) (by kernel_rfl) rfl ?_
  refine wpG_move (.pointer (some ⟨p, 0, none⟩)) rfl (by kernel_rfl) (by kernel_rfl) (by kernel_rfl) ?_
  refine wpG_move (.pointer (some ⟨p, 0, none⟩)) rfl (by kernel_rfl) (by kernel_rfl) (by kernel_rfl) ?_
  refine wpG_run1 (x := .tmp 11) (.pointer (some ⟨p, 0, none⟩)) (.pointer (some ⟨p, 0, none⟩)) (by kernel_rfl) (by kernel_rfl) (by kernel_rfl) (by kernel_rfl) (fun j wx ρ hC h0 hc => by simp [go_sem, h0]) ?_
  refine wpG_run1 (x := .tmp 12) (.pointer (some ⟨p, 0, none⟩)) (.pointer (some ⟨p, 3, none⟩)) (by kernel_rfl) (by kernel_rfl) (by kernel_rfl) (by kernel_rfl) (fun j wx ρ hC h0 hc => by simp [go_sem, h0]) ?_
  refine wpG_runU1 (x := .tmp 13) 1 (.pointer (some ⟨p, 3, none⟩)) vP (by kernel_rfl) (by kernel_rfl) (by kernel_rfl) (by kernel_rfl) (by kernel_rfl) (by kernel_rfl) (fun j wx ρ hj hC h0 hc => ?_) ?_
  · have hcell : wx.cell? ⟨p, 3, none⟩ = some vP := by
      match j, hj with
      | 0, _ => subst hC; exact C3a.out
      | 1, _ => subst hC; exact C3b.out
    simp [go_sem, h0, hcell]
  refine wpG_runU1 (x := .tmp 3) 0 (.pointer (some ⟨bx, 0, none⟩)) (.agg cs.toArray) (by kernel_rfl) (by kernel_rfl) (by kernel_rfl) (by kernel_rfl) (by kernel_rfl) (by kernel_rfl) (fun j wx ρ hj hC h0 hc => ?_) ?_
  · obtain rfl : j = 0 := by omega
    subst hC
    exact load_opE cs HCL.out rfl ρ HLD.out h0
  refine wpG_op 0 (.slice (some ⟨w3.heap.size, 0, none⟩) 1 1) _ (.inl rfl) (by kernel_rfl) (by kernel_rfl) (by kernel_rfl) (by kernel_rfl) (by kernel_rfl) (fun wx hC => ⟨_, by subst hC; exact slot_opE rfl cs HCL.out _ _ rfl, rfl⟩) ?_
  refine wpG_op 1 (.slice ao5 (k + 1) cap5) _ (.inl rfl) (by kernel_rfl) (by kernel_rfl) (by kernel_rfl) (by kernel_rfl) (by kernel_rfl) (fun wx hC => ⟨_, by subst hC; exact app_E rfl rfl rfl HR5.out, rfl⟩) ?_
  refine wpG_run1 (x := .tmp 10) (.pointer (some ⟨p, 0, none⟩)) (.pointer (some ⟨p, 0, none⟩)) (by kernel_rfl) (by kernel_rfl) (by kernel_rfl) (by kernel_rfl) (fun j wx ρ hC h0 hc => by simp [go_sem, h0]) ?_
  refine wpG_run1 (x := .tmp 18) (.pointer (some ⟨p, 0, none⟩)) (.pointer (some ⟨p, 3, none⟩)) (by kernel_rfl) (by kernel_rfl) (by kernel_rfl) (by kernel_rfl) (fun j wx ρ hC h0 hc => by simp [go_sem, h0]) ?_
  refine wpG_op 2 undef _ (.inr ⟨rfl, rfl⟩) (by kernel_rfl) (by kernel_rfl) (by kernel_rfl) (by kernel_rfl) (by kernel_rfl) (fun wx hC => ⟨w5.setCell ⟨p, 3, none⟩ (.slice ao5 (k + 1) cap5), by subst hC; exact store_E (a := .pointer (some ⟨p, 3, none⟩)) (v := .slice ao5 (k + 1) cap5) rfl (by kernel_rfl) (by kernel_rfl) (by simp [go_sem, Q5.out.1, Q5.out.2]), rfl⟩) ?_
  refine wpG_end (fun w9 hw9 => ?_)
  subst hw9
  simp only [setL, List.set_cons_zero, List.set_cons_succ]
  go_wp2
  go_end0
  refine ⟨rfl, .slice ao5 (k + 1) cap5, ?_⟩
  have h := H6.out
  simp only [List.set_cons_zero, List.set_cons_succ] at h
  rw [hll.out, hfm.out]
  have h2 := (h.front 2 rfl)
  simp only [List.eraseIdx_cons_succ, List.eraseIdx_cons_zero] at h2
  exact (h2.perm ((List.Perm.swap _ _ _).cons _)).perm ((List.Perm.swap _ _ _)) |>.drop 1 |>.perm (List.Perm.refl _)
end Fla
end Go.Proofs.Ytmdphcebmgcdbaa

end
section
namespace Go.Own
open Go.RowKit
end Go.Own
namespace Go.Proofs.Ytmdphcebmgcdbaa
open Go.RowKit Go.Own
namespace Fla
open Go.FlaM Byt

theorem zero_opV : ∃ z : Array Value, z.size = 131 ∧ (Try.prog.info? 130).bind (·.zero) = some (.agg z) := by
  refine ⟨#[.bool false, .int .i64 0, .int .i64 0] ++ ((List.replicate 128 (0 : UInt8)).map byteV).toArray, by simp, ?_⟩
  kernel_rfl
theorem info_opL (cs : List Value) (h : cs.length = 131) : (Try.prog.info? 130).map (·.size) = some cs.toArray.size := by
  have h0 : (Try.prog.info? 130).map (fun i => i.size) = some 131 := by kernel_rfl
  rw [List.size_toArray, h]
  exact h0

theorem fn_enter {o : Oper} {x y : Tmp} {ts : Array TypeId} (ho : o.op = .call { callee := .value (.tmp x), args := #[.tmp y], argTypes := ts }) (f : FuncId) (caps : Array Value) (hfn : ∀ (args : Array Value) w, (callFunc f args).run Try.prog w = .ok (.enter f args) w) (ρ : Operand → Value) {v : Value} (h0 : ρ (.tmp x) = .func (.func f) #[] caps) (h1 : ρ (.tmp y) = v) (w : World) :
    (execOp ρ o).run Try.prog w = .ok (.enter f (#[v] ++ caps)) w := by
  unfold execOp
  simp [ho, resolve, h0, h1, Deferred.ofValue, invoke, go_sem, hfn]

set_option maxRecDepth 10000 in
set_option maxHeartbeats 1600000 in
theorem settle_st {B : Nat} {w0 w : World} {Ps : List Asn} {p pp nn : Nat} {vN vS vP vW : Value} {G : List (List Bs)} {L : List FlaM.Act} {n : Nat} {off armed : Bool} {lf : Int} (f : FuncId) (caps : Array Value) (φ : Nat → Int)
    (H : Own.St B w0 w (AVals p 89 (flCells pp vN vS vP vW n off armed lf) :: PGrid 90 125 vS G :: ARow 130 131 vP L.length (L.flatMap opCells) :: Ps))
    (hs : Shape G nn pp) (hn : nn ≤ 256) (hp : 1 ≤ pp ∧ pp ≤ 64) (hall : ∀ a ∈ L, ActOk nn pp a) (hL : L.length ≤ 10000) (hφ : ∀ i, i64B (φ i))
    (hent : ∀ (args : Array Value) w, (callFunc f args).run Try.prog w = .ok (.enter f args) w)
    (hf : ∀ (i : Nat) (wx : World) (Xs : List Asn), i < L.length → Own.St B w0 wx (Xs ++ Ps) → Calls Try.prog f (#[.int .i64 (i : Int)] ++ caps) wx fun e w' => e = .returned (.int .i64 (φ i)) ∧ Below wx.heap.size wx w') :
    Calls Try.prog 34 #[ptr p, .func (.func f) #[] caps] w fun e w' => e = .returned (.tuple #[]) ∧ Own.St B w0 w' (AVals p 89 (flCells pp vN vS (.slice none 0 0) vW n off armed lf) :: PGrid 90 125 vS (doAllF pp φ G 0 L) :: ARow 130 131 (.slice none 0 0) 0 [] :: Ps) := by
  have HALL := Lib.hid hall
  have HS := Lib.hid hs
  have HF := Lib.hid hf
  have HP := Lib.hid hp
  have HN := Lib.hid hn
  have HPHI := Lib.hid hφ
  have HENT := Lib.hid hent
  obtain ⟨R, hR⟩ : ∃ R, R = doAllF pp φ G 0 L := ⟨_, rfl⟩
  rw [← hR]
  have HR := Lib.hid hR
  obtain ⟨aP, cP, rfl⟩ := H.rowForm 2 rfl
  obtain ⟨l, hl⟩ : ∃ l, l = L.length := ⟨_, rfl⟩
  rw [← hl] at H hL hf
  have HLL := Lib.hid hl
  have c3 := (H.cellV 0 rfl 3 rfl).1
  have H0 := Lib.hid H
  have hflat := flat_length opCells 131 L (fun a ha => opCells_len (hall a ha))
  have HFLAT := Lib.hid hflat
  obtain ⟨z, hz1, hz2⟩ := zero_opV
  have HZ1 := Lib.hid hz1
  have HZ2 := Lib.hid hz2
  clear hall hs hf hp hn hφ hent hR hl H hflat hz1 hz2
  go_enter Try.func34, Try.ntmps34
  go_wp2
  clear c3
  go_loopw [11] (fun v wr => ∃ (k : Nat) (Gk : List (List Bs)), k ≤ l ∧ v = .int .i64 (k : Int) ∧ Shape Gk nn pp ∧ R = doAllF pp φ Gk k (L.drop k) ∧ Own.St B w0 wr (AVals p 89 (flCells pp vN vS (.slice aP l cP) vW n off armed lf) :: PGrid 90 125 vS Gk :: ARow 130 131 (.slice aP l cP) l (L.flatMap opCells) :: Ps)) (fun v _ => l - (intOf v).toNat)
  case atStart => exact ⟨0, G, Nat.zero_le _, rfl, HS.out, HR.out, H0.out⟩
  case round =>
    obtain ⟨k, Gk, hkl, rfl, hsh, hrk, H⟩ := hrel
    have H := Lib.hid H
    have HSH := Lib.hid hsh
    have HRK := Lib.hid hrk
    clear H0 hsh hrk
    by_cases hk : (k : Int) < (l : Int)
    · have hkn : k < l := by omega
      obtain ⟨a, hak⟩ : ∃ a, L[k]? = some a := ⟨_, List.getElem?_eq_getElem (by rw [← HLL.out]; exact hkn)⟩
      have HAK := Lib.hid hak
      have HA := Lib.hid (HALL.out a (List.mem_of_getElem? hak))
      obtain ⟨cs, hcs⟩ : ∃ c, c = opCells a := ⟨_, rfl⟩
      have HCS := Lib.hid hcs
      have HCL : Hid (cs.length = 131) := by show cs.length = 131; rw [hcs]; exact opCells_len HA.out
      have HONE : Hid (∀ u ∈ cs, u.oneCell' = true) := by rw [hcs]; exact one_op (n := nn) (pp := pp)
      obtain ⟨g, rfl, _, _, _⟩ := H.out.rowAt 2 rfl (k * 131) (by omega)
      have RNG : Hid (wr.rangeAt g (k * 131) cs) := by
        intro j v hv
        have hj := (List.getElem?_eq_some_iff.1 hv).1
        rw [HCL.out] at hj
        have h1 := (H.out.rowRange 2 rfl (k * 131 + j) (by omega)).1
        rw [h1, flat_at opCells 131 L (fun a ha => opCells_len (HALL.out a ha)) k a HAK.out j hj, ← hcs]
        exact hv
      have IO := Lib.hid (info_opL cs HCL.out)
      have IOL : Hid ((Try.prog.info? 130).map (·.size) = some cs.length) := by have := info_opL cs HCL.out; rwa [List.size_toArray] at this
      have OO : Hid (cs.toArray.all (·.oneCell') = true) := all_oneCell_toArray HONE.out
      obtain ⟨b5, hb5⟩ : ∃ b, b = wr.heap.size := ⟨_, rfl⟩
      obtain ⟨W1, hW1⟩ : ∃ W, W = wr.alloc (.cells z 130) := ⟨_, rfl⟩
      have hbx := H.out.box (.cells z 130)
      have hbx2 : Own.St B w0 W1 (AVals b5 130 z.toList :: AVals p 89 (flCells pp vN vS (.slice (some ⟨g, 0, none⟩) l cP) vW n off armed lf) :: PGrid 90 125 vS Gk :: ARow 130 131 (.slice (some ⟨g, 0, none⟩) l cP) l (L.flatMap opCells) :: Ps) := by
        unfold AVals
        rw [hb5, hW1, Array.toArray_toList]
        exact hbx
      have HB5 := Lib.hid hb5
      have HW1 := Lib.hid hW1
      have TH : Hid (W1.there b5 0 cs.toArray.size) := hbx2.thereV 0 rfl (by rw [List.size_toArray, HCL.out, Array.length_toList, HZ1.out]; exact Nat.le_refl _)
      have hset := Own.St.setAll 0 cs 0 W1 _ z.toList hbx2 rfl (by rw [HCL.out, Array.length_toList, HZ1.out])
      simp only [List.set_cons_zero, List.take_zero, List.nil_append] at hset
      obtain ⟨W2, hW2⟩ : ∃ W, W = W1.setCells b5 0 cs.toArray.toList := ⟨_, rfl⟩
      have HW2 := Lib.hid hW2
      have H2 : Hid (Own.St B w0 W2 (AVals b5 130 cs :: AVals p 89 (flCells pp vN vS (.slice (some ⟨g, 0, none⟩) l cP) vW n off armed lf) :: PGrid 90 125 vS Gk :: ARow 130 131 (.slice (some ⟨g, 0, none⟩) l cP) l (L.flatMap opCells) :: Ps)) := by
        rw [hW2, List.toList_toArray]; exact hset
      have R5 : Hid (∀ wx, Below W2.heap.size W2 wx → wx.rangeAt b5 0 cs) := fun wx hwx => range_box (H2.out.later hwx) 0 rfl
      have C2 : Hid (∀ wx, Below W2.heap.size W2 wx → wx.cell? ⟨p, 2, none⟩ = some vS) := fun wx hwx => ((H2.out.later hwx).cellV 1 rfl 2 rfl).1
      have CF : Hid (∀ wx, Below W2.heap.size W2 wx → Calls Try.prog f (#[.int .i64 (k : Int)] ++ caps) wx fun e w' => e = .returned (.int .i64 (φ k)) ∧ Below wx.heap.size wx w') := fun wx hwx =>
        HF.out k wx [_, _, _, _] (by rw [← HLL.out]; exact hkn) (H2.out.later hwx)
      obtain ⟨ext, hext⟩ : ∃ e, e = φ k := ⟨_, rfl⟩
      rw [← hext] at CF
      have CA : Hid (∀ wx, Below W2.heap.size W2 wx → Calls Try.prog 51 #[.agg cs.toArray, vS, .int .i64 ext] wx fun e w' => e = .returned (.tuple #[]) ∧ Own.St B w0 w' (PGrid 90 125 vS (doOne pp Gk a ext) :: AVals b5 130 cs :: AVals p 89 (flCells pp vN vS (.slice (some ⟨g, 0, none⟩) l cP) vW n off armed lf) :: ARow 130 131 (.slice (some ⟨g, 0, none⟩) l cP) l (L.flatMap opCells) :: Ps)) := by
        intro wx hwx
        have h1 := (H2.out.later hwx).front 2 rfl
        simp only [List.eraseIdx_cons_succ, List.eraseIdx_cons_zero] at h1
        rw [hcs]
        rw [hcs] at h1
        exact apply_st h1 HSH.out HN.out HP.out a HA.out ext (by rw [hext]; exact HPHI.out k)
      have HSN : Hid (Shape (doOne pp Gk a ext) nn pp) := shape_one HSH.out a HA.out ext
      have HRN : Hid (R = doAllF pp φ (doOne pp Gk a ext) (k + 1) (L.drop (k + 1))) := by
        show R = _
        rw [HRK.out, doAllF_step pp φ L Gk k a HAK.out, hext]
      clear hak hcs hb5 hW1 hbx hbx2 hset hW2 hext HAK HA HCS HONE H HSH HRK
      go_wp2_with (first
        | (refine wpList_load_mid rfl 130 (.tmp 14) rfl g (k * 131) rfl cs _ RNG.out Try.underlying130 rfl IOL.out ?_)
        | (refine Fla.wpList_allocZ rfl 130 rfl z HZ2.out ?_; rw [← HB5.out, ← HW1.out])
        | (refine wpList_store_mid rfl 130 (.tmp 5) (.tmp 15) rfl b5 0 cs.toArray rfl rfl TH.out IO.out OO.out ?_; rw [← HW2.out]))
      clear RNG TH
      refine wp_laxW_list 8 (by kernel_rfl) (by kernel_rfl) (by kernel_rfl) (by kernel_rfl) (by kernel_rfl) ?_
      simp only [List.take_succ_cons, List.take_zero, List.drop_succ_cons, List.drop_zero]
      refine wpL_run1 (x := .tmp 5) (.pointer (some ⟨b5, 0, none⟩)) (.agg cs.toArray) (by kernel_rfl) (by kernel_rfl) (by kernel_rfl) (by kernel_rfl) (by kernel_rfl) (fun wx ρ hwx h0 hc => load_opE cs HCL.out rfl ρ (R5.out wx hwx) h0) ?_
      refine wpL_move (.pointer (some ⟨p, 0, none⟩)) rfl (by kernel_rfl) (by kernel_rfl) (by kernel_rfl) (by kernel_rfl) ?_
      refine wpL_run1 (x := .tmp 17) (.pointer (some ⟨p, 0, none⟩)) (.pointer (some ⟨p, 0, none⟩)) (by kernel_rfl) (by kernel_rfl) (by kernel_rfl) (by kernel_rfl) (by kernel_rfl) (fun wx ρ hwx h0 hc => by simp [go_sem, h0]) ?_
      refine wpL_run1 (x := .tmp 18) (.pointer (some ⟨p, 0, none⟩)) (.pointer (some ⟨p, 2, none⟩)) (by kernel_rfl) (by kernel_rfl) (by kernel_rfl) (by kernel_rfl) (by kernel_rfl) (fun wx ρ hwx h0 hc => by simp [go_sem, h0]) ?_
      refine wpL_run1 (x := .tmp 19) (.pointer (some ⟨p, 2, none⟩)) vS (by kernel_rfl) (by kernel_rfl) (by kernel_rfl) (by kernel_rfl) (by kernel_rfl) (fun wx ρ hwx h0 hc => by simp [go_sem, h0, C2.out wx hwx]) ?_
      refine wpL_move (.func (.func f) #[] caps) rfl (by kernel_rfl) (by kernel_rfl) (by kernel_rfl) (by kernel_rfl) ?_
      refine wpL_move (.int .i64 (k : Int)) rfl (by kernel_rfl) (by kernel_rfl) (by kernel_rfl) (by kernel_rfl) ?_
      refine wpL_call (.int .i64 ext) (#[.int .i64 (k : Int)] ++ caps) (by kernel_rfl) (by kernel_rfl) (by kernel_rfl) (by kernel_rfl) (fun wx => fn_enter rfl f caps HENT.out _ (by kernel_rfl) (by kernel_rfl) wx) ?_ ?_
      · clear CA
        intro wx hwx
        exact CF.out wx hwx
      refine wpL_end (by kernel_rfl) (fun w3 hw3 => ?_)
      simp only [FinL, setL, List.set_cons_zero, List.set_cons_succ]
      intro _
      have CA3 := Lib.hid (CA.out w3 hw3)
      clear CA CF R5 C2 hw3
      go_wp2_with (fail)
      refine CA3.out.mono ?_
      clear CA3
      rintro e w4 ⟨rfl, h4⟩
      have H4 := Lib.hid h4
      clear h4
      go_wp2
      go_roundw
      case rel =>
        refine ⟨k + 1, _, by omega, by go_num, HSN.out, HRN.out, ?_⟩
        have h := (H4.out.perm ((List.Perm.swap _ _ _))).drop 1
        exact h.swap2
      case measure => simp [intOf]; omega
    · have hkl2 : k = l := by omega
      have HE : Hid (R = Gk) := by
        show R = Gk
        rw [HRK.out, List.drop_of_length_le (by rw [← HLL.out]; omega)]
        rfl
      have q := H.out.cellV 0 rfl 3 rfl
      have HF2 := Lib.hid (H.out.storeV 0 rfl 3 (.slice none 0 0))
      clear HRK HR
      go_wp2
      go_end0
      refine ⟨rfl, ?_⟩
      have h := (HF2.out.front 2 rfl).drop 1
      simp only [List.set_cons_zero, List.set_cons_succ, List.eraseIdx_cons_succ, List.eraseIdx_cons_zero, List.drop_succ_cons, List.drop_zero] at h
      rw [HE.out]
      exact ((h.rowFresh (e := 130) (size := 131)).perm (List.Perm.swap _ _ _)).perm ((List.Perm.swap _ _ _).cons _)
end Fla
end Go.Proofs.Ytmdphcebmgcdbaa

end
section
namespace Go.Proofs.Ytmdphcebmgcdbaa
open Go.RowKit Go.Own
namespace Fla
open Go.FlaM Byt

theorem manyPage : Many Try.prog 90 125 128 128 := ⟨Try.underlying90, by kernel_rfl, by decide⟩
theorem manyInt : Many Try.prog 44 3 1 8 := ⟨Try.underlying44, by kernel_rfl, by decide⟩
theorem manyByte : Many Try.prog 56 5 1 1 := ⟨Try.underlying56, by kernel_rfl, by decide⟩
theorem oneRowB : One Try.prog 86 90 (.slice none 0 0) 24 := ⟨Try.underlying86, by kernel_rfl, rfl⟩

set_option maxHeartbeats 800000 in
theorem clonePages {B : Nat} {w0 w : World} {Ps : List Asn} {ao : Option Addr} {n cap : Nat} {xs : List Value} (H : Own.St B w0 w (ARow 125 128 (.slice ao n cap) n xs :: Ps)) (h1 : ∀ u ∈ xs, u.oneCell' = true) (hb : n ≤ 100000) :
    Calls Try.prog 49 #[.slice ao n cap] w fun e w' => ∃ a' c', e = .returned (.slice a' n c') ∧ Own.St B w0 w' (ARow 125 128 (.slice a' n c') n xs :: ARow 125 128 (.slice ao n cap) n xs :: Ps) := by
  have hl := H.rowLen 0 rfl
  have H0 := Lib.hid H
  have HO := Lib.hid h1
  have H1 := Lib.hid (H.emptyRow 125 128)
  have HN := Lib.hid (H1.out.rowNews 1 rfl)
  have HL := Lib.hid hl
  clear H h1 hl
  go_enter Try.func49, Try.ntmps49
  rcases ao with _ | a
  · obtain ⟨rfl, rfl⟩ := HL.out.2.2.2 rfl
    have hx : xs = [] := List.eq_nil_of_length_eq_zero (by have := HL.out.1; omega)
    subst hx
    clear HN H1 HO HL
    have hq := eqlNil (P := Try.prog) w 90 _ none 0 0 Try.underlying90
    simp only [Option.isNone_none] at hq
    go_wp2
    go_ret
    exact ⟨none, 0, rfl, H0.out.rowFresh⟩
  · have hq := eqlNil (P := Try.prog) w 90 _ (some a) n cap Try.underlying90
    simp only [Option.isNone_some] at hq
    go_wp2_with (refine wpList_many_append manyPage rfl (.tmp 5) (.tmp 6) rfl H1.out 0 rfl rfl (some a) n cap xs rfl (by intro h; cases h) HL.out.1 HN.out HO.out (by omega) (by decide) ?_; intro a2 c2 w2 h2; simp only [List.set_cons_zero, Nat.zero_add, List.nil_append] at h2 ⊢; have H2 := Lib.hid h2; clear h2)
    go_ret
    exact ⟨_, _, rfl, H2.out⟩
set_option maxHeartbeats 800000 in
/-- bytes.Clone of cells that lie anywhere -/
theorem cloneBytes {B : Nat} {w0 w : World} {Ps : List Asn} (H : Own.St B w0 w Ps) (a : Addr) (n cap : Nat) (l : Bs) (hl : l.length = n) (hc : ∀ j u, (l.map byteV)[j]? = some u → w.cell? (a.add j) = some u) (hlt : n = 0 ∨ a.block < w.heap.size) (hb : n ≤ 100000) :
    Calls Try.prog 75 #[.slice (some a) n cap] w fun e w' => ∃ a' c', e = .returned (.slice a' n c') ∧ Own.St B w0 w' (AB a' n c' l :: Ps) := by
  have H1 := Lib.hid (H.emptyRow 5 1)
  have HL : Hid ((l.map byteV).length = n * 1) := by show (l.map byteV).length = n * 1; simp [hl]
  have HN : Hid (∀ a', some a = some a' → ∀ j u, (l.map byteV)[j]? = some u → (w.alloc (.cells #[] 5)).cell? (a'.add j) = some u) := by
    intro a' ha j u hu
    cases ha
    exact cell_alloc (hc j u hu) _
  clear H hc hlt
  have hq := eqlNil (P := Try.prog) w 56 _ (some a) n cap Try.underlying56
  simp only [Option.isNone_some] at hq
  go_enter Try.func75, Try.ntmps75
  go_wp2_with (refine wpList_many_append manyByte rfl (.tmp 5) (.tmp 6) rfl H1.out 0 rfl rfl (some a) n cap (l.map byteV) rfl (by intro h; cases h) HL.out HN.out (byteV_one _) (by omega) (by decide) ?_; intro a2 c2 w2 h2; simp only [List.set_cons_zero, Nat.zero_add, List.nil_append] at h2 ⊢; have H2 := Lib.hid h2; clear h2)
  go_ret
  exact ⟨_, _, rfl, H2.out⟩

theorem take_set_next {α : Type} (rows : List α) (d : α) (k : Nat) (row : α) (h : rows[k]? = some row) : (rows.take k ++ List.replicate (rows.length - k) d).set k row = rows.take (k + 1) ++ List.replicate (rows.length - (k + 1)) d := by
  obtain ⟨hl, rfl⟩ := List.getElem?_eq_some_iff.1 h
  have e : rows.length - k = (rows.length - (k + 1)) + 1 := by omega
  rw [e, List.replicate_succ, List.set_append_right _ _ (by rw [List.length_take]; omega), List.length_take, show k - min k rows.length = 0 by omega, List.set_cons_zero, List.take_succ_eq_append_getElem hl, List.append_assoc]
  rfl
set_option maxHeartbeats 1600000 in
theorem clone_st {B : Nat} {w0 w : World} {Ps : List Asn} {v : Value} {G : List (List Bs)} {nn pp : Nat} (H : Own.St B w0 w (PGrid 90 125 v G :: Ps)) (hs : Shape G nn pp) (hn : nn ≤ 256) (hp : 1 ≤ pp ∧ pp ≤ 64) :
    Calls Try.prog 28 #[v] w fun e w' => ∃ a' c', e = .returned (.slice a' G.length c') ∧ Own.St B w0 w' (PGrid 90 125 (.slice a' G.length c') G :: PGrid 90 125 v G :: Ps) := by
  have hgl := hs.len
  have HS := Lib.hid hs
  obtain ⟨l, hl⟩ : ∃ l, l = G.length := ⟨_, rfl⟩
  have hlb : l ≤ 256 := by omega
  have HL := Lib.hid hl
  obtain ⟨rs, hrs, ho⟩ := H.pOpen
  obtain ⟨aV, cV, rfl⟩ := ho.rowForm 0 rfl
  rw [← hl]
  rw [← hl] at H
  clear ho hrs rs
  obtain ⟨w1, g1, hmk, h1⟩ := St.pMake (e := 125) oneRowB H .i64 .i64 l (by omega) (by decide)
  have H1 := Lib.hid h1
  clear H h1 hl hgl hs
  go_enter Try.func28, Try.ntmps28
  go_wp2
  clear hmk
  go_loopw [10] (fun v wr => ∃ k : Nat, k ≤ l ∧ v = .int .i64 (k : Int) ∧ Own.St B w0 wr (PGrid 90 125 (.slice (some ⟨g1, 0, none⟩) l l) (G.take k ++ List.replicate (G.length - k) []) :: PGrid 90 125 (.slice aV l cV) G :: Ps)) (fun v _ => l - (intOf v).toNat)
  case atStart => exact ⟨0, Nat.zero_le _, rfl, by rw [List.take_zero, List.nil_append, Nat.sub_zero, ← HL.out]; exact H1.out⟩
  case round =>
    obtain ⟨k, hkl, rfl, H⟩ := hrel
    have H := Lib.hid H
    clear H1
    by_cases hk : (k : Int) < (l : Int)
    · have hkn : k < l := by omega
      obtain ⟨row, hrow⟩ : ∃ row, G[k]? = some row := ⟨_, List.getElem?_eq_getElem (by rw [← HL.out]; exact hkn)⟩
      have hnn : l = nn := by rw [HL.out]; exact HS.out.len
      have hgd : G.getD k [] = row := by rw [List.getD_eq_getElem?_getD, hrow]; rfl
      have hrl : row.length = pp := by rw [← hgd]; exact HS.out.rows k (by omega)
      obtain ⟨g, c, ⟨ar, cr⟩, Qs, hv, cg, hR, put⟩ := H.out.swap2.pRowAtX k row hrow
      simp only [Value.slice.injEq] at hv
      obtain ⟨rfl, hvl, rfl⟩ := hv
      clear hvl
      have HR := Lib.hid hR
      have PUT : Hid (∀ w' a' c', Own.St B w0 w' (pRow 125 (a', c') row :: pRow 125 (ar, cr) row :: Qs) → ∃ (c1 : Nat), c1 = l ∧ (∃ u, w'.cell? ⟨g1, k, none⟩ = some u) ∧ w'.frozen? ⟨g1, k, none⟩ = false ∧ Own.St B w0 (w'.setCell ⟨g1, k, none⟩ (.slice a' row.length c')) (PGrid 90 125 (.slice (some ⟨g1, 0, none⟩) l l) (G.take (k + 1) ++ List.replicate (G.length - (k + 1)) []) :: PGrid 90 125 (.slice (some ⟨g, 0, none⟩) l cV) G :: Ps)) := by
        intro w' a' c' h
        have h2 := put w' row [pRow 125 (a', c') row] rfl h
        rw [show G.set k row = G by
          obtain ⟨hl2, rfl⟩ := List.getElem?_eq_some_iff.1 hrow
          exact List.set_getElem_self hl2] at h2
        have h3 := h2.front 2 rfl
        simp only [List.cons_append, List.nil_append, List.eraseIdx_cons_succ, List.eraseIdx_cons_zero] at h3
        have hlen : (G.take k ++ List.replicate (G.length - k) ([] : List Bs)).length = l := by rw [List.length_append, List.length_take, List.length_replicate]; have := HL.out; omega
        obtain ⟨g2, c2, hv2, hcu, hfz, h4⟩ := h3.pPut k (by rw [hlen]; exact hkn)
        simp only [Value.slice.injEq, hlen] at hv2
        obtain ⟨e1, _, rfl⟩ := hv2
        cases e1
        rw [take_set_next G [] k row hrow] at h4
        exact ⟨_, rfl, hcu, hfz, h4⟩
      have CG : Hid (wr.cell? ⟨g, k, none⟩ = some (.slice ar pp cr)) := by rw [← hrl]; exact cg
      have cg2 := CG.out
      have HRL := Lib.hid hrl
      have CC : Hid (Calls Try.prog 49 #[.slice ar pp cr] wr fun e w' => ∃ a' c', e = .returned (.slice a' pp c') ∧ Own.St B w0 w' (pRow 125 (a', c') row :: pRow 125 (ar, cr) row :: Qs)) := by
        have h := clonePages (n := row.length) hR (byteV_one _) (by omega)
        rw [hrl] at h
        refine h.mono ?_
        rintro e w' ⟨a', c', he, h'⟩
        refine ⟨a', c', he, ?_⟩
        unfold pRow
        rw [hrl]
        exact h'
      clear hrow hgd hrl hR put cg CG H HR hnn
      go_wp2_with (fail)
      refine CC.out.mono ?_
      clear CC cg2
      rintro e w2 ⟨a2, c2, rfl, h2⟩
      obtain ⟨_, _, ⟨u, cu⟩, fu, h3⟩ := PUT.out w2 a2 c2 h2
      rw [HRL.out] at h3
      have H3 := Lib.hid h3
      clear h2 h3 PUT
      go_wp2
      go_roundw
      case rel => exact ⟨k + 1, by omega, by go_num, H3.out⟩
      case measure => simp [intOf]; omega
    · obtain rfl : k = l := by omega
      have H2 : Hid (Own.St B w0 wr (PGrid 90 125 (.slice (some ⟨g1, 0, none⟩) k k) G :: PGrid 90 125 (.slice aV k cV) G :: Ps)) := by
        have h := H.out
        rw [← HL.out, List.take_of_length_le (by rw [← HL.out]; exact Nat.le_refl _), Nat.sub_self, List.replicate_zero, List.append_nil] at h
        exact h
      clear H
      go_wp2
      go_ret
      exact ⟨_, _, rfl, H2.out⟩
end Fla
end Go.Proofs.Ytmdphcebmgcdbaa

end
section
namespace Go.FlaM
theorem doOne_len (pp : Nat) (G : List (List Bs)) (a : Act) (e : Int) : (doOne pp G a e).length = G.length := by
  unfold doOne
  split
  · exact setPage_len _ _ _ _
  · exact clearTo_len _ _ _
theorem nowG_len (pp : Nat) : ∀ (L : List Act) (G : List (List Bs)), (nowG pp G L).length = G.length
  | [], _ => rfl
  | a :: L, G => (nowG_len pp L _).trans (doOne_len pp G a 128)
end Go.FlaM
namespace Go.Proofs.Ytmdphcebmgcdbaa
open Go.RowKit Go.Own
namespace Fla
open Go.FlaM Byt

abbrev intV (n : Nat) : Value := .int .i64 (n : Int)
structure Hidden where
  aN : Option Addr
  cN : Nat
  aS : Option Addr
  cS : Nat
  vP : Value
  vW : Value
  armed : Bool
  lf : Int
structure HRel (x : Hidden) (s : FS) : Prop where
  i64 : i64B x.lf
  on : s.off = false → (x.armed = true → x.lf = s.left) ∧ (x.armed = false → s.left = -1)
  pos : x.armed = true → 0 ≤ x.lf
abbrev gridT (v : Value) (G : List (List Bs)) : Asn := PGrid 90 125 v G
def flParts (p : Nat) (x : Hidden) (s : FS) : List Asn := [AVals p 89 (flCells s.pp (.slice x.aN s.safe.length x.cN) (.slice x.aS s.safe.length x.cS) x.vP x.vW s.n s.off x.armed x.lf), gridT (.slice x.aN s.safe.length x.cN) (nowG s.pp s.safe s.L), gridT (.slice x.aS s.safe.length x.cS) s.safe, ARow 130 131 x.vP s.L.length (s.L.flatMap opCells), ARow 3 1 x.vW s.wear.length (s.wear.map intV)]
def AFl (p : Nat) (s : FS) : Asn := AEx (α := { x : Hidden // HRel x s }) fun x => AJoin (flParts p x.1 s)
section
variable {B : Nat} {w0 w : World} {Ps : List Asn} {p : Nat} {s : FS}
theorem flOpen (H : Own.St B w0 w (AFl p s :: Ps)) : ∃ x, HRel x s ∧ Own.St B w0 w (flParts p x s ++ Ps) := by
  obtain ⟨⟨x, hx⟩, h⟩ := H.openE
  exact ⟨x, hx, h.openJ⟩
theorem flClose {x : Hidden} (hx : HRel x s) (H : Own.St B w0 w (flParts p x s ++ Ps)) : Own.St B w0 w (AFl p s :: Ps) :=
  St.closeE (α := { x : Hidden // HRel x s }) (P := fun x => AJoin (flParts p x.1 s)) ⟨x, hx⟩ H.closeJ

theorem segs_any {N : Nat} (H : Own.St B w0 w (AFl p s :: Ps)) (ok : Ok s N) : Calls Try.prog 29 #[ptr p] w fun e w' => e = .returned (errV s.safe.length) ∧ Below w.heap.size w w' := by
  obtain ⟨x, _, h⟩ := flOpen H
  have c1 := (h.cellV 0 rfl 1 rfl).1
  have := ok.segs
  go_enter Try.func29, Try.ntmps29
  go_wp2
  go_ret
  exact ⟨rfl, Below.refl _ _⟩
theorem pages_any (H : Own.St B w0 w (AFl p s :: Ps)) : Calls Try.prog 31 #[ptr p] w fun e w' => e = .returned (errV s.pp) ∧ Below w.heap.size w w' := by
  obtain ⟨x, _, h⟩ := flOpen H
  have c1 := (h.cellV 0 rfl 0 rfl).1
  go_enter Try.func31, Try.ntmps31
  go_wp2
  go_ret
  exact ⟨rfl, Below.refl _ _⟩
theorem cut_any (H : Own.St B w0 w (AFl p s :: Ps)) (after : Int) (ha : i64B after) : Calls Try.prog 15 #[ptr p, .int .i64 after] w fun e w' => e = .returned (.tuple #[]) ∧ Own.St B w0 w' (AFl p (cut s after) :: Ps) := by
  obtain ⟨x, hx, h⟩ := flOpen H
  have c6 := (h.cellV 0 rfl 6 rfl)
  have c7 := (h.cellV 0 rfl 7 rfl)
  have h1 := h.storeV 0 rfl 7 (.bool (decide (0 ≤ after)))
  have c8 := (h1.cellV 0 rfl 8 rfl)
  have h2 := h1.storeV 0 rfl 8 (.int .i64 after)
  have H0 := Lib.hid H
  have H2 := Lib.hid h2
  clear H h h1 h2
  obtain ⟨off, hoff⟩ : ∃ o, o = s.off := ⟨_, rfl⟩
  rw [← hoff] at c6
  have HO := Lib.hid hoff
  clear hoff
  go_enter Try.func15, Try.ntmps15
  cases off
  · by_cases h0 : 0 ≤ after
    · rw [decide_eq_true h0] at c8 H2
      go_wp2
      go_end0
      refine ⟨rfl, ?_⟩
      have e : cut s after = { s with left := max after (-1) } := by unfold cut; rw [← HO.out]; rfl
      rw [e]
      exact flClose (x := { x with armed := true, lf := after }) ⟨ha, fun _ => ⟨fun _ => by show after = max after (-1); omega, fun h => (by cases h)⟩, fun _ => h0⟩ H2.out
    · rw [decide_eq_false h0] at c8 H2
      go_wp2
      go_end0
      refine ⟨rfl, ?_⟩
      have e : cut s after = { s with left := max after (-1) } := by unfold cut; rw [← HO.out]; rfl
      rw [e]
      exact flClose (x := { x with armed := false, lf := after }) ⟨ha, fun _ => ⟨fun h => (by cases h), fun _ => by show max after (-1) = -1; omega⟩, fun h => (by cases h)⟩ H2.out
  · clear c7 c8
    go_wp2
    refine bodyPost_ret (results_none rfl _ _ _) rfl ?_
    refine ⟨rfl, ?_⟩
    have e : cut s after = s := by unfold cut; rw [← HO.out]; rfl
    rw [e]
    exact H0.out
end
theorem nilProgram_any (seg page : Int) (v : Value) (w : World) : Calls Try.prog 55 #[.pointer none, .int .i64 seg, .int .i64 page, v] w fun e w' => e = .returned (errV 2) ∧ Below w.heap.size w w' := by
  go_enter Try.func55, Try.ntmps55
  go_wp2
  go_ret
  exact ⟨rfl, Below.refl _ _⟩
theorem nilErase_any (seg : Int) (w : World) : Calls Try.prog 86 #[.pointer none, .int .i64 seg] w fun e w' => e = .returned (errV 2) ∧ Below w.heap.size w w' := by
  go_enter Try.func86, Try.ntmps86
  go_wp2
  go_ret
  exact ⟨rfl, Below.refl _ _⟩
theorem nilBarrier_any (w : World) : Calls Try.prog 17 #[.pointer none] w fun e w' => e = .returned (errV 2) ∧ Below w.heap.size w w' := by
  go_enter Try.func17, Try.ntmps17
  go_wp2
  go_ret
  exact ⟨rfl, Below.refl _ _⟩
theorem nilRead_any (seg page : Int) (w : World) : Calls Try.prog 56 #[.pointer none, .int .i64 seg, .int .i64 page] w fun e w' => ∃ ao cap, e = .returned (.tuple #[.slice ao 0 cap, errV 2]) ∧ Below w.heap.size w w' := by
  go_enter Try.func56, Try.ntmps56
  go_wp2
  go_ret2
  exact ⟨none, 0, rfl, Below.refl _ _⟩
theorem nilCut_any (after : Int) (w : World) : Calls Try.prog 15 #[.pointer none, .int .i64 after] w fun e w' => e = .returned (.tuple #[]) ∧ Below w.heap.size w w' := by
  go_enter Try.func15, Try.ntmps15
  go_wp2
  refine bodyPost_ret (results_none rfl _ _ _) rfl ?_
  exact ⟨rfl, Below.refl _ _⟩
theorem nilSegs_any (w : World) : Calls Try.prog 29 #[.pointer none] w fun e w' => e = .returned (errV 0) ∧ Below w.heap.size w w' := by
  go_enter Try.func29, Try.ntmps29
  go_wp2
  go_ret
  exact ⟨rfl, Below.refl _ _⟩
theorem nilPages_any (w : World) : Calls Try.prog 31 #[.pointer none] w fun e w' => e = .returned (errV 0) ∧ Below w.heap.size w w' := by
  go_enter Try.func31, Try.ntmps31
  go_wp2
  go_ret
  exact ⟨rfl, Below.refl _ _⟩
theorem nilCrash_any (v : Value) (w : World) : Calls Try.prog 20 #[.pointer none, v] w fun e w' => e = .returned (.tuple #[]) ∧ Below w.heap.size w w' := by
  go_enter Try.func20, Try.ntmps20
  go_wp2
  all_goals (try go_wp2)
  all_goals
    refine bodyPost_ret (results_none rfl _ _ _) rfl ?_
    exact ⟨rfl, (Below.refl w.heap.size w).alloc (Nat.le_refl _) _⟩
end Fla
end Go.Proofs.Ytmdphcebmgcdbaa

end
section
namespace Go.Proofs.Ytmdphcebmgcdbaa
open Go.RowKit Go.Own
namespace Fla
open Go.FlaM Byt
/-- a struct literal, its cells known -/
theorem wpList_built {P : Program} {ops : Array Oper} {rest : List Oper} {o : Oper} {a : Go.Act} {w : World} {Q : Exit → Go.Act → World → Prop} (hgd : o.guard = none) (t : TypeId) (parts : Array (Nat × Operand)) (ho : o.op = .build t parts) (cells : Array Value)
    (hf : P.built t (parts.map fun (i, x) => (i, a.eval x)).toList = some cells) (h : wpList P ops Q rest (a.put o.dst (.agg cells)) w) : wpList P ops Q (o :: rest) a w := by
  refine wpList_plain hgd fun K hK => ?_
  have := run_build w t (parts.map fun (i, x) => (i, a.eval x)) cells hf
  unfold Oper.wp
  simp [execOp, ho, this, Result.andThen]
  exact hK _ _ h
theorem built_erase (k : Nat) : Try.prog.built 130 [(0, .bool true), (1, .int .i64 (k : Int))] = some (opCells ⟨k, -1, []⟩).toArray := by kernel_rfl
theorem built_prog0 (k q : Nat) (f : Nat → Value) : Try.prog.built 130 [(1, .int .i64 (k : Int)), (2, .int .i64 (q : Int)), (3, .agg ((List.range 128).map f).toArray)] = some (([.bool false, .int .i64 (k : Int), .int .i64 (q : Int)] : List Value) ++ ((List.range 128).map f)).toArray := by kernel_rfl
theorem built_prog (k q : Nat) (b : Bs) (hb : b.length = 128) : Try.prog.built 130 [(1, .int .i64 (k : Int)), (2, .int .i64 (q : Int)), (3, .agg (b.map byteV).toArray)] = some (opCells ⟨k, (q : Int), b⟩).toArray := by
  have h := built_prog0 k q (fun i => (b.map byteV).getD i undef)
  rw [range_map (b.map byteV) 128 (by simp [hb])] at h
  rw [h]
  unfold opCells wOf
  rw [if_neg (by show ¬ (q : Int) < 0; omega), decide_eq_false (by show ¬ (q : Int) < 0; omega)]
  rfl
theorem trip_off {x : Hidden} {s : FS} (hx : HRel x s) : (s.off || (x.armed && decide (x.lf = 0))) = (trip s).off := by
  unfold trip
  cases ho : s.off with
  | true => split <;> simp_all
  | false =>
    obtain ⟨h1, h2⟩ := hx.on ho
    cases ha : x.armed with
    | true =>
      have := h1 ha
      by_cases h0 : s.left = 0
      · rw [if_pos h0]; simp [this, h0]
      · rw [if_neg h0]; simp [this, h0, ho]
    | false =>
      have := h2 ha
      rw [if_neg (by omega)]; simp [ho]
section
variable {B : Nat} {w0 w : World} {Ps : List Asn} {p : Nat} {s : FS} {N : Nat}
theorem begin_fl {x : Hidden} (H : Own.St B w0 w (flParts p x s ++ Ps)) (hx : HRel x s) (ok : Ok s N) (hN : N ≤ 10000) :
    Calls Try.prog 33 #[ptr p] w fun e w' => if (trip s).off = true then e = .returned (errV 6) ∧ ∃ x', HRel x' (trip s) ∧ Own.St B w0 w' (flParts p x' (trip s) ++ Ps)
      else e = .returned (errV 0) ∧ ∃ x', HRel x' (okd (trip s)) ∧ Own.St B w0 w' (flParts p x' (okd (trip s)) ++ Ps) := by
  obtain ⟨e1, e2, e3, e4, e5⟩ := trip_safe s
  have hn := ok.n
  refine (begin_st (n := s.n) H (by omega) hx.i64 hx.pos).mono ?_
  intro e w' h
  rw [trip_off hx] at h
  by_cases ho : (trip s).off = true
  · rw [if_pos ho] at h ⊢
    refine ⟨h.1, x, ⟨hx.i64, fun h0 => (by rw [ho] at h0; cases h0), hx.pos⟩, ?_⟩
    have h2 := h.2
    unfold flParts
    rw [e1, e2, e3, e4, e5, ho]
    exact h2
  · rw [if_neg ho] at h ⊢
    have hoff : (trip s).off = false := by simpa using ho
    have hto := trip_off hx
    rw [hoff] at hto
    have hso : s.off = false := by
      cases h : s.off with
      | false => rfl
      | true => rw [h] at hto; simp at hto
    have hl0 : ¬ s.left = 0 := fun h0 => by unfold trip at hoff; rw [if_pos h0] at hoff; cases hoff
    have htr : trip s = s := by unfold trip; rw [if_neg hl0]
    obtain ⟨r1, r2⟩ := hx.on hso
    have hlb := ok.left
    have hxi := hx.i64
    refine ⟨h.1, { x with lf := if x.armed = true then x.lf - 1 else x.lf }, ⟨?_, fun _ => ⟨fun ha => ?_, fun ha => ?_⟩, fun ha => ?_⟩, ?_⟩
    · show i64B (if x.armed = true then x.lf - 1 else x.lf)
      split
      · rename_i ha
        have := hx.pos ha
        obtain ⟨q1, q2⟩ := hxi
        exact ⟨by omega, by omega⟩
      · exact hxi
    · have ha' : x.armed = true := ha
      have hpos := hx.pos ha'
      have := r1 ha'
      show (if x.armed = true then x.lf - 1 else x.lf) = (if 0 < (trip s).left then (trip s).left - 1 else (trip s).left)
      rw [htr, if_pos ha', if_pos (by omega), this]
    · have ha' : x.armed = false := ha
      have := r2 ha'
      show (if 0 < (trip s).left then (trip s).left - 1 else (trip s).left) = -1
      rw [htr, if_neg (by omega), this]
    · have ha' : x.armed = true := ha
      have := r1 ha'
      have := hx.pos ha'
      show 0 ≤ (if x.armed = true then x.lf - 1 else x.lf)
      rw [if_pos ha']
      omega
    · have h2 := h.2
      rw [htr]
      unfold flParts okd
      simp only
      rw [hso]
      exact h2

theorem perm_d {α : Type _} (a b c d : α) (r : List α) : (a :: b :: c :: d :: r).Perm (a :: b :: d :: c :: r) := ((List.Perm.swap d c r).cons b).cons a
theorem perm_s {α : Type _} (a b c d : α) (r : List α) : (a :: b :: c :: d :: r).Perm (a :: c :: d :: b :: r) := ((List.Perm.swap c b _).trans ((List.Perm.swap d b r).cons c)).cons a
/-- an operation is done, and noted -/
theorem perform_fl {x : Hidden} (H : Own.St B w0 w (flParts p x s ++ Ps)) (hx : HRel x s) (hsh0 : Shape s.safe s.safe.length s.pp) (hsg : s.safe.length ≤ 256) (hpp : 1 ≤ s.pp ∧ s.pp ≤ 64) (hacts : ∀ a ∈ s.L, ActOk s.safe.length s.pp a) (a : FlaM.Act) (ha : ActOk s.safe.length s.pp a) (hL : s.L.length ≤ 10000) :
    Calls Try.prog 74 #[ptr p, .agg (opCells a).toArray] w fun e w' => e = .returned (.tuple #[]) ∧ Own.St B w0 w' (AFl p { s with L := s.L ++ [a] } :: Ps) := by
  have hsh := nowG_shape s.L s.safe hsh0 hacts
  refine (perform_st (nn := s.safe.length) (G := nowG s.pp s.safe s.L) (L := s.L) (H.perm (perm_d _ _ _ _ _)) hsh hsg hpp a ha hL).mono ?_
  rintro e w' ⟨he, vP', h⟩
  refine ⟨he, flClose (x := { x with vP := vP' }) ⟨hx.i64, hx.on, hx.pos⟩ ?_⟩
  have h2 := h.perm (perm_d _ _ _ _ _)
  unfold flParts
  show Own.St B w0 w' (_ :: gridT _ (nowG s.pp s.safe (s.L ++ [a])) :: _)
  rw [nowG_snoc, doOne_big hpp.2 _ a 128 9223372036854775807 (by decide) (by decide)]
  exact h2

set_option maxHeartbeats 1600000 in
theorem erase_any (H : Own.St B w0 w (AFl p s :: Ps)) (ok : Ok s N) (hN : N ≤ 10000) (seg : Int) (hseg : i64B seg) :
    Calls Try.prog 86 #[ptr p, .int .i64 seg] w fun e w' => e = .returned (errV (erase s seg).2) ∧ Own.St B w0 w' (AFl p (erase s seg).1 :: Ps) := by
  obtain ⟨x, hx, h⟩ := flOpen H
  have HS := Lib.hid (hasSeg_st h seg)
  have H0 := Lib.hid H
  have HB := Lib.hid (begin_fl h hx ok hN)
  have hpp := ok.pp
  have hdec : there s seg 0 = decide (0 ≤ seg ∧ seg < (s.safe.length : Int)) := by unfold there; congr 1; apply propext; constructor <;> omega
  by_cases hin : 0 ≤ seg ∧ seg < (s.safe.length : Int)
  · have ht : there s seg 0 = true := by rw [hdec, decide_eq_true hin]
    rw [decide_eq_true hin] at HS
    by_cases ho : (trip s).off = true
    · have HE : Hid (erase s seg = (trip s, 6)) := by
        show erase s seg = (trip s, 6)
        unfold erase
        rw [if_neg (by rw [ht]; decide), if_pos ho]
      have HB2 : Hid (Calls Try.prog 33 #[ptr p] w fun e w' => e = .returned (errV 6) ∧ Own.St B w0 w' (AFl p (trip s) :: Ps)) := by
        refine HB.out.mono ?_
        intro e w' h'
        rw [if_pos ho] at h'
        obtain ⟨he, x', hx', h2⟩ := h'
        exact ⟨he, flClose hx' h2⟩
      rw [HE.out]
      clear hin hdec ht ho H h HB hpp ok hx
      go_enter Try.func86, Try.ntmps86
      go_wp2_with (fail)
      refine HS.out.mono ?_
      rintro e w1 ⟨rfl, rfl⟩
      clear HS
      go_wp2_with (fail)
      refine HB2.out.mono ?_
      clear HB2
      rintro e w2 ⟨rfl, h2⟩
      have H2 := Lib.hid h2
      clear h2
      go_wp2
      go_ret
      exact ⟨rfl, H2.out⟩
    · obtain ⟨k, hk⟩ : ∃ k : Nat, seg = (k : Int) := ⟨seg.toNat, by omega⟩
      subst hk
      have HE : Hid (erase s (k : Int) = ({ okd (trip s) with L := (okd (trip s)).L ++ [⟨k, -1, []⟩], wear := bump (okd (trip s)).wear k }, 0)) := by
        show erase s (k : Int) = _
        unfold erase
        rw [if_neg (by rw [ht]; decide), if_neg ho]
        rfl
      have okt : Ok (okd (trip s)) (N + 1) := by
        have g := ok_trip ok
        exact ⟨g.segs, g.pp, g.rows, g.pages, g.wear, g.acts, left_okd _ g.left, Nat.succ_le_succ g.n, Nat.le_succ_of_le g.log, fun i => Nat.le_succ_of_le (g.worn i)⟩
      have hsl : (okd (trip s)).safe.length = s.safe.length := by show (trip s).safe.length = _; rw [(trip_safe s).1]
      obtain ⟨t, htt⟩ : ∃ t, t = okd (trip s) := ⟨_, rfl⟩
      rw [← htt] at HE okt hsl
      have HB2 : Hid (Calls Try.prog 33 #[ptr p] w fun e w' => e = .returned (errV 0) ∧ ∃ x', HRel x' t ∧ Own.St B w0 w' (flParts p x' t ++ Ps)) := by
        refine HB.out.mono ?_
        intro e w' h'
        rw [if_neg ho, ← htt] at h'
        exact h'
      have HOK := Lib.hid okt
      have hkl : k < t.safe.length := by omega
      have hlog : t.L.length ≤ 10000 := by rw [htt]; show (trip s).L.length ≤ _; rw [(trip_safe s).2.1]; have := ok.log; have := ok.n; omega
      rw [HE.out]
      clear hin hdec ht ho H h HB hpp ok hx htt hsl okt
      go_enter Try.func86, Try.ntmps86
      go_wp2_with (fail)
      refine HS.out.mono ?_
      rintro e w1 ⟨rfl, rfl⟩
      clear HS
      go_wp2_with (fail)
      refine HB2.out.mono ?_
      clear HB2
      rintro e w2 ⟨rfl, x', hx', h2⟩
      have hwl := HOK.out.wear
      obtain ⟨aW, cW, hW⟩ := h2.rowForm 4 rfl
      have c4 := (h2.cellV 0 rfl 4 rfl).1
      rw [hW] at c4
      have h4 : (flParts p x' t ++ Ps)[4]? = some (ARow 3 1 (.slice aW t.wear.length cW) t.wear.length (t.wear.map intV)) := by rw [← hW]; rfl
      obtain ⟨g, rfl, ⟨u, hu, cu⟩, fu, put⟩ := h2.rowAt 4 h4 k (by omega)
      obtain ⟨q, hq⟩ : ∃ q, t.wear[k]? = some q := ⟨_, List.getElem?_eq_getElem (by omega)⟩
      rw [List.getElem?_map, hq] at hu
      cases hu
      have hqn : q ≤ 10001 := by
        have h1 := HOK.out.worn k
        rw [List.getD_eq_getElem?_getD, hq] at h1
        have h2 := HOK.out.n
        exact Nat.le_trans h1 (by omega)
      obtain ⟨q1, hq1⟩ : ∃ x, q + 1 = x := ⟨_, rfl⟩
      have hqi : (q : Int) + 1 = (q1 : Int) := by omega
      have PF : Hid (∀ (wx : World), wx = w2.setCell ⟨g, k, none⟩ (intV q1) → Calls Try.prog 74 #[ptr p, .agg (opCells ⟨k, -1, []⟩).toArray] wx fun e w' => e = .returned (.tuple #[]) ∧ Own.St B w0 w' (AFl p { t with L := t.L ++ [⟨k, -1, []⟩], wear := bump t.wear k } :: Ps)) := by
        intro wx hwx
        subst hwx
        have hst : Own.St B w0 (w2.setCell ⟨g, k, none⟩ (intV q1)) (flParts p x' { t with wear := bump t.wear k } ++ Ps) := by
          have h5 := put (intV q1)
          have e1 : (flParts p x' t ++ Ps).set 4 (ARow 3 1 (.slice (some ⟨g, 0, none⟩) t.wear.length cW) t.wear.length ((t.wear.map intV).set k (intV q1))) = flParts p x' { t with wear := bump t.wear k } ++ Ps := by
            unfold flParts
            simp only [List.cons_append, List.nil_append, List.set_cons_succ, List.set_cons_zero]
            have e2 : bump t.wear k = t.wear.set k q1 := by unfold bump; rw [List.getD_eq_getElem?_getD, hq]; simp [hq1]
            rw [e2, List.length_set, List.map_set, ← hW]
          rw [e1] at h5
          exact h5
        exact perform_fl (s := { t with wear := bump t.wear k }) hst ⟨hx'.i64, hx'.on, hx'.pos⟩ HOK.out.shape HOK.out.segs HOK.out.pp HOK.out.acts ⟨k, -1, []⟩ ⟨hkl, .inr ⟨rfl, rfl⟩⟩ hlog
      obtain ⟨nW, hnW⟩ : ∃ n, n = t.wear.length := ⟨_, rfl⟩
      rw [← hnW] at c4
      have hkn : k < nW := by rw [hnW, hwl]; exact hkl
      clear put h4 hW hq h2 hnW hwl hq1 hx'
      obtain ⟨cs, hcs⟩ : ∃ c, c = opCells ⟨k, -1, []⟩ := ⟨_, rfl⟩
      have BE : Hid (Try.prog.built 130 [(0, .bool true), (1, .int .i64 (k : Int))] = some cs.toArray) := by rw [hcs]; exact built_erase k
      rw [← hcs] at PF
      clear hcs
      go_wp2_with (refine Fla.wpList_built rfl 130 #[(0, .const (.bool true)), (1, .tmp 27)] rfl cs.toArray ?_ ?_; · (simp only [List.map_toArray, List.map_cons, List.map_nil, List.toList_toArray]; exact BE.out))
      refine (PF.out _ rfl).mono ?_
      clear PF BE
      rintro e w3 ⟨rfl, h3⟩
      have H3 := Lib.hid h3
      clear h3
      go_wp2
      go_ret
      exact ⟨rfl, H3.out⟩
  · have ht : there s seg 0 = false := by rw [hdec, decide_eq_false hin]
    rw [decide_eq_false hin] at HS
    have HE : Hid (erase s seg = (s, 1)) := by
      show erase s seg = (s, 1)
      unfold erase
      rw [if_pos ht]
    rw [HE.out]
    clear hin hdec ht H h HB hpp ok hx
    go_enter Try.func86, Try.ntmps86
    go_wp2_with (fail)
    refine HS.out.mono ?_
    rintro e w1 ⟨rfl, rfl⟩
    clear HS
    go_wp2
    go_ret
    exact ⟨rfl, H0.out⟩
end
end Fla
end Go.Proofs.Ytmdphcebmgcdbaa

end
section
namespace Go.Proofs.Ytmdphcebmgcdbaa
open Go.RowKit Go.Own
namespace Fla
open Go.FlaM Byt

theorem IView.same {w w' : World} {B : Nat} {ao : Option Addr} {l : List Int} (h : IView w B ao l) (g : ∀ k, k < B → w'.heap[k]? = w.heap[k]?) (hs : w.heap.size ≤ w'.heap.size) : IView w' B ao l := by
  rcases h with h | ⟨b, o, e, hb, hsz, hc⟩
  · exact .inl h
  · exact .inr ⟨b, o, e, hb, Nat.lt_of_lt_of_le hsz hs, fun j hj => ⟨(World.cell?_of_block (w := w) (g b hb)).trans (hc j hj).1, (hc j hj).2⟩⟩
theorem IView.same' {w w' : World} {B : Nat} {ao : Option Addr} {l : List Int} (h : IView w B ao l) (g : ∀ k, k < B → w'.heap[k]? = w.heap[k]?) (hs : B ≤ w'.heap.size) : IView w' B ao l := by
  rcases h with h | ⟨b, o, e, hb, hsz, hc⟩
  · exact .inl h
  · exact .inr ⟨b, o, e, hb, Nat.lt_of_lt_of_le hb hs, fun j hj => ⟨(World.cell?_of_block (w := w) (g b hb)).trans (hc j hj).1, (hc j hj).2⟩⟩
section
variable {W : World} (K : Kept W)
end
end Fla
end Go.Proofs.Ytmdphcebmgcdbaa

end
