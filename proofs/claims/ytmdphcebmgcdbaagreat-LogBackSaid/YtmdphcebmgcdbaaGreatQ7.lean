/- Merged: TbaE TbaF TbaG SrtC SrtD SrtK SrtE -/
import Derived.Sort.LotD4
import Derived.Lib.BitFns
import Derived.Lib.Small
import Derived.Sort.Walk7a
import Derived.Sort.Walk7
import Derived.Sort.WalkA14
import Derived.Test.YtmdphcebmgcdbaaGreatQ6
set_option linter.unusedVariables false
section
namespace Go.Proofs.YtmdphcebmgcdbaaGreat
open Go.RowKit Go.Own
namespace Tba
open Go.TabM Tab
theorem fld_rows {o : Oper} {X : Operand} (ho : o.op = .fieldAddr 97 X 0) {p : Nat} (ρ : Operand → Value) (w : World) (h0 : ρ X = .pointer (some ⟨p, 0, none⟩)) : (execOp ρ o).run Tryz.prog w = .ok (.value (.pointer (some ⟨p, 0, none⟩))) w := by
  simp [execOp, ho, h0, go_sem, add_of]
theorem fld_seg1 {o : Oper} {X : Operand} (ho : o.op = .fieldAddr 106 X 1) {p i : Nat} (ρ : Operand → Value) (w : World) (h0 : ρ X = .pointer (some ⟨p, i, none⟩)) : (execOp ρ o).run Tryz.prog w = .ok (.value (.pointer (some ⟨p, i + 1, none⟩))) w := by
  simp [execOp, ho, h0, go_sem, add_of]
theorem fld_seg2 {o : Oper} {X : Operand} (ho : o.op = .fieldAddr 106 X 2) {p i : Nat} (ρ : Operand → Value) (w : World) (h0 : ρ X = .pointer (some ⟨p, i, none⟩)) : (execOp ρ o).run Tryz.prog w = .ok (.value (.pointer (some ⟨p, i + 2, none⟩))) w := by
  simp [execOp, ho, h0, go_sem, add_of]
theorem ld_rows {o : Oper} {X : Operand} (ho : o.op = .load 95 X) {a : Addr} {v : Value} (ρ : Operand → Value) {w : World} (hc : w.cell? a = some v) (h0 : ρ X = .pointer (some a)) : (execOp ρ o).run Tryz.prog w = .ok (.value v) w := by
  simp [execOp, ho, h0, go_sem, hc]
theorem ld_w {o : Oper} {X : Operand} (ho : o.op = .load 31 X) {a : Addr} {v : Value} (ρ : Operand → Value) {w : World} (hc : w.cell? a = some v) (h0 : ρ X = .pointer (some a)) : (execOp ρ o).run Tryz.prog w = .ok (.value v) w := by
  simp [execOp, ho, h0, go_sem, hc]
theorem ld_q {o : Oper} {X : Operand} (ho : o.op = .load 32 X) {a : Addr} {v : Value} (ρ : Operand → Value) {w : World} (hc : w.cell? a = some v) (h0 : ρ X = .pointer (some a)) : (execOp ρ o).run Tryz.prog w = .ok (.value v) w := by
  simp [execOp, ho, h0, go_sem, hc]
theorem two_ints {o : Oper} {x y : Operand} (ho : o.op = .buildSlice 42 2 #[(0, x), (1, y)]) (a b : Int) (ρ : Operand → Value) (h0 : ρ x = .int .i64 a) (h1 : ρ y = .int .i64 b) (w : World) : ∃ v w', (execOp ρ o).run Tryz.prog w = .ok (.value v) w' ∧ (tyWin 2 [.int .i64 a, .int .i64 b]).holds v w' ∧ Below w.heap.size w w' := by
  refine ⟨.slice (some ⟨w.heap.size, 0, none⟩) 2 2, w.alloc (.cells #[.int .i64 a, .int .i64 b] 3), ?_, ?_, ((Own.St.start w).alloc _).below⟩
  · simp [execOp, ho, h0, h1, go_sem]
  · refine ⟨_, _, rfl, .inr ⟨w.heap.size, 0, rfl, fun j u hu => ?_⟩⟩
    rw [Nat.zero_add]
    exact (((Own.St.start w).boxV 3 [.int .i64 a, .int .i64 b]).cellV 0 rfl j hu).1
section
variable {B : Nat} {w0 w : World} {Ps : List Asn} {p : Nat} {v : Value} {t : T} {N : Nat}
set_option maxHeartbeats 1600000 in
theorem byWear_any (H : Own.St B w0 w (AT p v t :: Ps)) (i j : Nat) (hi0 : i < t.rows.length) (hj0 : j < t.rows.length) : Calls Tryz.prog 107 #[ptr p, .int .i64 (i : Int), .int .i64 (j : Int)] w fun e w' => e = .returned (.int .i64 (wearCmp t.rows i j)) ∧ Below w.heap.size w w' := by
  have h0 := at_open H
  obtain ⟨g, cap, rfl, ha⟩ := rowG_at h0 1 rfl i hi0
  obtain ⟨g', cap', e, hb⟩ := rowG_at h0 1 rfl j hj0
  simp only [Value.slice.injEq, Option.some.injEq, Addr.mk.injEq, and_true, true_and] at e
  obtain ⟨rfl, -⟩ := e
  obtain ⟨n, hn⟩ : ∃ n, n = t.rows.length := ⟨_, rfl⟩
  have hi : i < n := by omega
  have hj : j < n := by omega
  have CV : Hid (∀ wx, Below w.heap.size w wx → wx.cell? ⟨p, 0, none⟩ = some (.slice (some ⟨g, 0, none⟩) n cap)) := fun wx hw => by rw [hn]; exact ((h0.later hw).cellV 0 rfl 0 rfl).1
  obtain ⟨x, hx⟩ : ∃ x, x = (at_ t.rows i).wear := ⟨_, rfl⟩
  obtain ⟨y, hy⟩ : ∃ x, x = (at_ t.rows j).wear := ⟨_, rfl⟩
  have CX : Hid (∀ wx, Below w.heap.size w wx → wx.cell? ⟨g, i * 3 + 2, none⟩ = some (.int .u32 (x : Int))) := fun wx hw => by rw [hx]; exact cellLater' ha.c2 hw
  have CY : Hid (∀ wx, Below w.heap.size w wx → wx.cell? ⟨g, j * 3 + 2, none⟩ = some (.int .u32 (y : Int))) := fun wx hw => by rw [hy]; exact cellLater' hb.c2 hw
  obtain ⟨z, hz⟩ : ∃ z, z = wearCmp t.rows i j := ⟨_, rfl⟩
  have CZ : Hid (∀ wx, Calls Tryz.prog 110 #[.int .u32 (x : Int), .int .u32 (y : Int)] wx fun e w' => e = .returned (.int .i64 z) ∧ Below wx.heap.size wx w') := fun wx => (cmp32 x y wx).mono fun _ _ h => ⟨by rw [h.1, hz, hx, hy]; rfl, h.2 ▸ Below.refl _ _⟩
  rw [← hz]
  clear hz hx hy ha hb h0 H hn hi0 hj0
  go_enter Tryz.func107, Tryz.ntmps107
  go_wp2_with (fail)
  refine lxX ?_; refine lxM (ptr p) rfl ?_; refine lxA (.tmp 7) (ptr p) (.pointer (some ⟨p, 0, none⟩)) ?_; refine lxR (.tmp 8) (.pointer (some ⟨p, 0, none⟩)) (.pointer (some ⟨p, 0, none⟩)) (fun wx ρ hwx h0 hc => fld_rows rfl ρ wx h0) ?_; refine lxR (.tmp 9) (.pointer (some ⟨p, 0, none⟩)) (.slice (some ⟨g, 0, none⟩) n cap) (fun wx ρ hwx h0 hc => ld_rows rfl ρ (CV.out wx hwx) h0) ?_; refine lxM (.int .i64 (i : Int)) rfl ?_; refine lxT (.tmp 10) (.tmp 11) (.slice (some ⟨g, 0, none⟩) n cap) (.int .i64 (i : Int)) (.pointer (some ⟨g, i * 3, none⟩)) (fun wx ρ hwx h0 h1 hc => idx_seg rfl hi ρ wx h0 h1) ?_; refine lxR (.tmp 12) (.pointer (some ⟨g, i * 3, none⟩)) (.pointer (some ⟨g, i * 3 + 2, none⟩)) (fun wx ρ hwx h0 hc => fld_seg2 rfl ρ wx h0) ?_; refine lxR (.tmp 13) (.pointer (some ⟨g, i * 3 + 2, none⟩)) (.int .u32 (x : Int)) (fun wx ρ hwx h0 hc => ld_w rfl ρ (CX.out wx hwx) h0) ?_; refine lxM (ptr p) rfl ?_; refine lxA (.tmp 15) (ptr p) (.pointer (some ⟨p, 0, none⟩)) ?_; refine lxR (.tmp 16) (.pointer (some ⟨p, 0, none⟩)) (.pointer (some ⟨p, 0, none⟩)) (fun wx ρ hwx h0 hc => fld_rows rfl ρ wx h0) ?_; refine lxR (.tmp 17) (.pointer (some ⟨p, 0, none⟩)) (.slice (some ⟨g, 0, none⟩) n cap) (fun wx ρ hwx h0 hc => ld_rows rfl ρ (CV.out wx hwx) h0) ?_; refine lxM (.int .i64 (j : Int)) rfl ?_; refine lxT (.tmp 18) (.tmp 19) (.slice (some ⟨g, 0, none⟩) n cap) (.int .i64 (j : Int)) (.pointer (some ⟨g, j * 3, none⟩)) (fun wx ρ hwx h0 h1 hc => idx_seg rfl hj ρ wx h0 h1) ?_; refine lxR (.tmp 20) (.pointer (some ⟨g, j * 3, none⟩)) (.pointer (some ⟨g, j * 3 + 2, none⟩)) (fun wx ρ hwx h0 hc => fld_seg2 rfl ρ wx h0) ?_; refine lxR (.tmp 21) (.pointer (some ⟨g, j * 3 + 2, none⟩)) (.int .u32 (y : Int)) (fun wx ρ hwx h0 hc => ld_w rfl ρ (CY.out wx hwx) h0) ?_
  refine wpL_fn (.int .i64 z) [.int .u32 (x : Int), .int .u32 (y : Int)] rfl (by kernel_rfl) (by kernel_rfl) (by kernel_rfl) (by kernel_rfl) (fun _ _ => by simp [go_sem]) (fun wx hwx => CZ.out wx) ?_
  refine wpL_assign (.int .i64 z) rfl (by kernel_rfl) (by kernel_rfl) (by kernel_rfl) (by kernel_rfl) ?_
  refine wpL_end (by kernel_rfl) (fun w1 hw1 => ?_)
  simp only [FinL, setL, List.set_cons_zero, List.set_cons_succ]
  have HW := Lib.hid hw1
  clear hw1
  go_wp2
  go_ret
  exact ⟨rfl, HW.out⟩
set_option maxHeartbeats 1600000 in
theorem bySeq_any (H : Own.St B w0 w (AT p v t :: Ps)) (i j : Nat) (hi0 : i < t.rows.length) (hj0 : j < t.rows.length) : Calls Tryz.prog 30 #[ptr p, .int .i64 (i : Int), .int .i64 (j : Int)] w fun e w' => e = .returned (.int .i64 (seqCmp t.rows i j)) ∧ Below w.heap.size w w' := by
  have h0 := at_open H
  obtain ⟨g, cap, rfl, ha⟩ := rowG_at h0 1 rfl i hi0
  obtain ⟨g', cap', e, hb⟩ := rowG_at h0 1 rfl j hj0
  simp only [Value.slice.injEq, Option.some.injEq, Addr.mk.injEq, and_true, true_and] at e
  obtain ⟨rfl, -⟩ := e
  obtain ⟨n, hn⟩ : ∃ n, n = t.rows.length := ⟨_, rfl⟩
  have hi : i < n := by omega
  have hj : j < n := by omega
  have CV : Hid (∀ wx, Below w.heap.size w wx → wx.cell? ⟨p, 0, none⟩ = some (.slice (some ⟨g, 0, none⟩) n cap)) := fun wx hw => by rw [hn]; exact ((h0.later hw).cellV 0 rfl 0 rfl).1
  obtain ⟨x, hx⟩ : ∃ x, x = (at_ t.rows i).seq := ⟨_, rfl⟩
  obtain ⟨y, hy⟩ : ∃ x, x = (at_ t.rows j).seq := ⟨_, rfl⟩
  have CX : Hid (∀ wx, Below w.heap.size w wx → wx.cell? ⟨g, i * 3 + 1, none⟩ = some (.int .u64 (x : Int))) := fun wx hw => by rw [hx]; exact cellLater' ha.c1 hw
  have CY : Hid (∀ wx, Below w.heap.size w wx → wx.cell? ⟨g, j * 3 + 1, none⟩ = some (.int .u64 (y : Int))) := fun wx hw => by rw [hy]; exact cellLater' hb.c1 hw
  obtain ⟨z1, hz1⟩ : ∃ z, z = cmpN x y := ⟨_, rfl⟩
  obtain ⟨z2, hz2⟩ : ∃ z, z = cmpN i j := ⟨_, rfl⟩
  obtain ⟨z, hz⟩ : ∃ z, z = seqCmp t.rows i j := ⟨_, rfl⟩
  have CZ : Hid (∀ wx, Calls Tryz.prog 52 #[.int .u64 (x : Int), .int .u64 (y : Int)] wx fun e w' => e = .returned (.int .i64 z1) ∧ Below wx.heap.size wx w') := fun wx => (cmp64 x y wx).mono fun _ _ h => ⟨by rw [h.1, hz1], h.2 ▸ Below.refl _ _⟩
  have CI : Hid (∀ wx, Calls Tryz.prog 53 #[.int .i64 (i : Int), .int .i64 (j : Int)] wx fun e w' => e = .returned (.int .i64 z2) ∧ Below wx.heap.size wx w') := fun wx => (cmpI i j wx).mono fun _ _ h => ⟨by rw [h.1, hz2], h.2 ▸ Below.refl _ _⟩
  have CO : Hid (∀ u wx, RdWin wx u 2 [.int .i64 z1, .int .i64 z2] → Calls Tryz.prog 51 #[u] wx fun e w' => e = .returned (.int .i64 z) ∧ w' = wx) := fun u wx hu => (or_any z1 z2 u wx hu).mono fun _ _ h => ⟨by rw [h.1, hz, hz1, hz2, hx, hy]; rfl, h.2⟩
  rw [← hz]
  clear hz hz1 hz2 hx hy ha hb h0 H hn hi0 hj0
  go_enter Tryz.func30, Tryz.ntmps30
  go_wp2_with (fail)
  refine lxX ?_; refine lxM (ptr p) rfl ?_; refine lxR (.tmp 7) (ptr p) (.pointer (some ⟨p, 0, none⟩)) (fun wx ρ hwx h0 hc => by simp [go_sem, h0]) ?_; refine lxR (.tmp 8) (.pointer (some ⟨p, 0, none⟩)) (.pointer (some ⟨p, 0, none⟩)) (fun wx ρ hwx h0 hc => fld_rows rfl ρ wx h0) ?_; refine lxR (.tmp 9) (.pointer (some ⟨p, 0, none⟩)) (.slice (some ⟨g, 0, none⟩) n cap) (fun wx ρ hwx h0 hc => ld_rows rfl ρ (CV.out wx hwx) h0) ?_; refine lxM (.int .i64 (i : Int)) rfl ?_; refine lxT (.tmp 10) (.tmp 11) (.slice (some ⟨g, 0, none⟩) n cap) (.int .i64 (i : Int)) (.pointer (some ⟨g, i * 3, none⟩)) (fun wx ρ hwx h0 h1 hc => idx_seg rfl hi ρ wx h0 h1) ?_; refine lxR (.tmp 12) (.pointer (some ⟨g, i * 3, none⟩)) (.pointer (some ⟨g, i * 3 + 1, none⟩)) (fun wx ρ hwx h0 hc => fld_seg1 rfl ρ wx h0) ?_; refine lxR (.tmp 13) (.pointer (some ⟨g, i * 3 + 1, none⟩)) (.int .u64 (x : Int)) (fun wx ρ hwx h0 hc => ld_q rfl ρ (CX.out wx hwx) h0) ?_; refine lxM (ptr p) rfl ?_; refine lxR (.tmp 15) (ptr p) (.pointer (some ⟨p, 0, none⟩)) (fun wx ρ hwx h0 hc => by simp [go_sem, h0]) ?_; refine lxR (.tmp 16) (.pointer (some ⟨p, 0, none⟩)) (.pointer (some ⟨p, 0, none⟩)) (fun wx ρ hwx h0 hc => fld_rows rfl ρ wx h0) ?_; refine lxR (.tmp 17) (.pointer (some ⟨p, 0, none⟩)) (.slice (some ⟨g, 0, none⟩) n cap) (fun wx ρ hwx h0 hc => ld_rows rfl ρ (CV.out wx hwx) h0) ?_; refine lxM (.int .i64 (j : Int)) rfl ?_; refine lxT (.tmp 18) (.tmp 19) (.slice (some ⟨g, 0, none⟩) n cap) (.int .i64 (j : Int)) (.pointer (some ⟨g, j * 3, none⟩)) (fun wx ρ hwx h0 h1 hc => idx_seg rfl hj ρ wx h0 h1) ?_; refine lxR (.tmp 20) (.pointer (some ⟨g, j * 3, none⟩)) (.pointer (some ⟨g, j * 3 + 1, none⟩)) (fun wx ρ hwx h0 hc => fld_seg1 rfl ρ wx h0) ?_; refine lxR (.tmp 21) (.pointer (some ⟨g, j * 3 + 1, none⟩)) (.int .u64 (y : Int)) (fun wx ρ hwx h0 hc => ld_q rfl ρ (CY.out wx hwx) h0) ?_
  refine wpL_fn (.int .i64 z1) [.int .u64 (x : Int), .int .u64 (y : Int)] rfl (by kernel_rfl) (by kernel_rfl) (by kernel_rfl) (by kernel_rfl) (fun _ _ => by simp [go_sem]) (fun wx hwx => CZ.out wx) ?_
  refine lxM (.int .i64 (i : Int)) rfl ?_; refine lxM (.int .i64 (j : Int)) rfl ?_
  refine wpL_fn (.int .i64 z2) [.int .i64 (i : Int), .int .i64 (j : Int)] rfl (by kernel_rfl) (by kernel_rfl) (by kernel_rfl) (by kernel_rfl) (fun _ _ => by simp [go_sem]) (fun wx hwx => CI.out wx) ?_
  refine wpL_runT (tyWin 2 [.int .i64 z1, .int .i64 z2]) rfl (by kernel_rfl) (by kernel_rfl) (by kernel_rfl) (by kernel_rfl) (fun wx hwx => two_ints rfl z1 z2 _ (by kernel_rfl) (by kernel_rfl) wx) ?_
  refine wpL_fnUV (.int .i64 z) rfl rfl (by kernel_rfl) (by kernel_rfl) (fun _ _ => by simp [go_sem]) (fun u wx hwx hu => (CO.out u wx hu).mono fun _ _ h => ⟨h.1, h.2 ▸ Below.refl _ _⟩) ?_
  refine wpL_assign (.int .i64 z) rfl (by kernel_rfl) (by kernel_rfl) (by kernel_rfl) (by kernel_rfl) ?_
  refine wpL_end (by kernel_rfl) (fun w1 hw1 => ?_)
  simp only [FinL, setL, List.set_cons_zero, List.set_cons_succ]
  intro x27 _
  have HW := Lib.hid hw1
  clear hw1
  go_wp2
  go_ret
  exact ⟨rfl, HW.out⟩
end
end Tba
end Go.Proofs.YtmdphcebmgcdbaaGreat
end
section
namespace Go.Proofs.YtmdphcebmgcdbaaGreat
open Go.RowKit Go.Own
namespace Tba
open Go.TabM Tab
def minO (rows : List Sg) : Option Nat → List Nat → Option Nat
  | b, [] => b
  | none, x :: l => minO rows (some x) l
  | some m, x :: l => minO rows (some (if (at_ rows x).wear < (at_ rows m).wear then x else m)) l
theorem best_all (rows : List Sg) : ∀ (l : List Sg) (i : Nat) (b : Option Nat), (∀ k s, l[k]? = some s → at_ rows (i + k) = s) →
    bestF (b.map fun m => (m, (at_ rows m).wear)) i l = (minO rows b (allF 0 i l)).map fun m => (m, (at_ rows m).wear)
  | [], _, b, _ => by simp [bestF, allF, minO]
  | s :: l, i, b, h => by
    have hs := h 0 s rfl
    rw [Nat.add_zero] at hs
    have hl : ∀ k s', l[k]? = some s' → at_ rows (i + 1 + k) = s' := fun k s' hk => by
      have := h (k + 1) s' hk
      rwa [show i + (k + 1) = i + 1 + k by omega] at this
    unfold bestF allF
    by_cases hk : s.kind = 0
    · rw [if_pos hk]
      cases b with
      | none =>
        have e : takes (Option.map (fun m => (m, (at_ rows m).wear)) none) s = true := by simp [takes, hk]
        rw [if_pos e, minO]
        have := best_all rows l (i + 1) (some i) hl
        rw [← this, Option.map_some, hs]
      | some m =>
        rw [minO]
        by_cases hw : s.wear < (at_ rows m).wear
        · have e : takes (Option.map (fun m => (m, (at_ rows m).wear)) (some m)) s = true := by simp [takes, hk, hw]
          rw [if_pos e, hs, if_pos hw]
          have := best_all rows l (i + 1) (some i) hl
          rw [← this, Option.map_some, hs]
        · have e : ¬ takes (Option.map (fun m => (m, (at_ rows m).wear)) (some m)) s = true := by simp [takes, hk, hw]
          rw [if_neg e, hs, if_neg hw]
          exact best_all rows l (i + 1) (some m) hl
    · rw [if_neg hk]
      have e : ¬ takes (Option.map (fun m => (m, (at_ rows m).wear)) b) s = true := by simp [takes, hk]
      rw [if_neg e]
      exact best_all rows l (i + 1) b hl
theorem best_min (t : T) : best t = (minO t.rows none (allL 0 t)).map fun m => (m, (at_ t.rows m).wear) := by
  have := best_all t.rows t.rows 0 none (fun k s hk => by rw [Nat.zero_add]; exact at_eq hk)
  exact this
theorem minO_some (rows : List Sg) : ∀ (l : List Nat) (m : Nat), ∃ k, minO rows (some m) l = some k ∧ (k = m ∨ k ∈ l)
  | [], m => ⟨m, rfl, .inl rfl⟩
  | x :: l, m => by
    obtain ⟨k, h1, h2⟩ := minO_some rows l (if (at_ rows x).wear < (at_ rows m).wear then x else m)
    refine ⟨k, h1, ?_⟩
    rcases h2 with h2 | h2
    · by_cases h : (at_ rows x).wear < (at_ rows m).wear
      · rw [if_pos h] at h2; exact .inr (by rw [h2]; exact List.mem_cons_self)
      · rw [if_neg h] at h2; exact .inl h2
    · exact .inr (List.mem_cons_of_mem _ h2)
theorem wear_lt (rows : List Sg) (x m : Nat) : decide (wearCmp rows x m < 0) = decide ((at_ rows x).wear < (at_ rows m).wear) := by
  unfold wearCmp cmpN
  by_cases h : (at_ rows x).wear < (at_ rows m).wear
  · simp [h]
  · by_cases h2 : (at_ rows m).wear < (at_ rows x).wear <;> simp [h, h2]
theorem minO_at {rows : List Sg} {L : List Nat} {i m : Nat} (hi : i < L.length) : minO rows (some m) (L.drop i) = minO rows (some (if (at_ rows L[i]).wear < (at_ rows m).wear then L[i] else m)) (L.drop (i + 1)) := by
  rw [List.drop_eq_getElem_cons hi, minO]
theorem enters40 (args : Array Value) (w : World) : (callFunc 107 args).run Tryz.prog w = .ok (.enter 107 args) w := by simp [go_sem]
section
variable {B : Nat} {w0 w : World} {Ps : List Asn} {p : Nat} {v : Value} {t : T} {N : Nat}
theorem rowG_at2 {rows : List Sg} {g c : Nat} (H : Own.St B w0 w Ps) (i : Nat) (hi : Ps[i]? = some (RowG (.slice (some ⟨g, 0, none⟩) rows.length c) rows)) (j : Nat) (hj : j < rows.length) : At w g j (at_ rows j) := by
  obtain ⟨g', c', e, ha⟩ := rowG_at H i hi j hj
  simp only [Value.slice.injEq, Option.some.injEq, Addr.mk.injEq, and_true, true_and] at e
  obtain ⟨rfl, rfl⟩ := e
  exact ha
set_option maxHeartbeats 4000000 in
theorem min_any (H : Own.St B w0 w (AT p v t :: Ps)) (L : List Nat) (hL : ∀ x ∈ L, x < t.rows.length) (hl : L.length ≤ 256) (m : Nat) (l : List Nat) (hml : L = m :: l) {w1 : World} {ao : Option Addr} {c : Nat} (h1 : Own.St w.heap.size w w1 [RowI (.slice ao L.length c) L L.length]) :
    Calls Tryz.prog 106 #[.slice ao L.length c, .func (.func 107) #[ptr p] #[]] w1 fun e w' => e = .returned (.int .i64 (((minO t.rows (some m) l).getD 0 : Nat) : Int)) ∧ Below w.heap.size w w' := by
  obtain ⟨R, hR⟩ : ∃ R, R = (minO t.rows (some m) l).getD 0 := ⟨_, rfl⟩
  rw [← hR]
  have hR0 : R = (minO t.rows (some m) (L.drop 1)).getD 0 := by rw [hR, hml]; rfl
  have HR0 := Lib.hid hR0
  have HL := Lib.hid hL
  have HH := Lib.hid H
  have H1 := Lib.hid h1
  obtain ⟨n, hn⟩ : ∃ n, n = L.length := ⟨_, rfl⟩
  have hn1 : 0 < n := by rw [hn, hml]; exact Nat.succ_pos _
  have HN := Lib.hid hn
  rw [← hn] at hl H1 ⊢
  have hmL : L[0]'(by omega) = m := by subst hml; rfl
  have hm0 : (L.map iV)[0]? = some (iV m) := by rw [hml]; rfl
  obtain ⟨g, rfl, ⟨u, hu, d0⟩, _, _⟩ := H1.out.rowAt 0 rfl 0 (by omega)
  rw [hm0] at hu
  cases hu
  have HM : Hid (m ∈ L) := by show m ∈ L; rw [hml]; exact List.mem_cons_self
  clear hR hR0 hL H h1 hn hmL hm0 hml
  have hlt1 : ¬ (n : Int) < 1 := by omega
  go_enter Tryz.func106, Tryz.ntmps106
  go_wp2
  go_loopw [5, 6] (fun v5 v6 wr => ∃ (i k : Nat), v5 = .int .i64 (k : Int) ∧ v6 = .int .i64 (i : Int) ∧ 1 ≤ i ∧ i ≤ n ∧ k ∈ L ∧ R = (minO t.rows (some k) (L.drop i)).getD 0 ∧ Own.St w.heap.size w wr [RowI (.slice (some ⟨g, 0, none⟩) n c) L n]) (fun _ v6 _ => n - (intOf v6).toNat)
  case atStart => exact ⟨1, m, rfl, rfl, Nat.le_refl _, hn1, HM.out, HR0.out, H1.out⟩
  case round =>
    obtain ⟨i, k, rfl, rfl, h1i, hin, hk, hr, hs⟩ := hrel
    have HS := Lib.hid hs
    have HRR := Lib.hid hr
    have HK := Lib.hid hk
    clear hs hr hk HR0 H1 d0
    by_cases hi : i < n
    · have hiI : (i : Int) < (n : Int) := by omega
      have hiL : i < L.length := by rw [← HN.out]; exact hi
      obtain ⟨x, hx⟩ : ∃ x, x = L[i] := ⟨_, rfl⟩
      have hxL : x ∈ L := by rw [hx]; exact List.getElem_mem _
      have hxm : (L.map iV)[i]? = some (iV x) := by rw [List.getElem?_map, List.getElem?_eq_getElem hiL, hx]; rfl
      obtain ⟨g2, hg2, ⟨u, hu, d0⟩, _, _⟩ := HS.out.rowAt 0 rfl i (by omega)
      cases hg2
      rw [hxm] at hu
      cases hu
      have CB := Lib.hid (byWear_any (HH.out.later HS.out.below) x k (HL.out x hxL) (HL.out k HK.out))
      obtain ⟨z, hz⟩ : ∃ z, z = wearCmp t.rows x k := ⟨_, rfl⟩
      rw [← hz] at CB
      have hwl := wear_lt t.rows x k
      rw [← hz] at hwl
      have HRN : Hid (R = (minO t.rows (some (if (at_ t.rows x).wear < (at_ t.rows k).wear then x else k)) (L.drop (i + 1))).getD 0) := by show _ = _; rw [HRR.out, minO_at hiL, ← hx]
      have HXL := Lib.hid hxL
      have ENT := Lib.hid enters40
      clear hz hx hxL hxm HRR
      by_cases hlt : (at_ t.rows x).wear < (at_ t.rows k).wear
      · have hzI : z < 0 := by rw [decide_eq_true hlt] at hwl; exact of_decide_eq_true hwl
        have HRM : Hid (R = (minO t.rows (some x) (L.drop (i + 1))).getD 0) := by show _ = _; rw [HRN.out, if_pos hlt]
        clear hwl hlt HRN hiL
        go_wp2_with (fail)
        refine CB.out.mono ?_
        clear CB
        rintro e w2 ⟨rfl, hb⟩
        have HS2 := Lib.hid (HS.out.later hb)
        obtain ⟨g3, hg3, ⟨u, hu, d1⟩, _, _⟩ := HS2.out.rowAt 0 rfl i (by omega)
        have hxm : (L.map iV)[i]? = some (iV x) := by
          obtain ⟨g4, hg4, ⟨u4, hu4, d4⟩, _, _⟩ := HS.out.rowAt 0 rfl i (by omega)
          cases hg4
          rw [d0] at d4
          cases d4
          exact hu4
        cases hg3
        rw [hxm] at hu
        cases hu
        clear hb hxm d0
        go_wp2
        go_roundw
        case rel => exact ⟨i + 1, x, rfl, by go_num, by omega, by omega, HXL.out, HRM.out, HS2.out⟩
        case measure => simp [intOf]; omega
      · have hzI : ¬ z < 0 := by rw [decide_eq_false hlt] at hwl; exact of_decide_eq_false hwl
        have HRM : Hid (R = (minO t.rows (some k) (L.drop (i + 1))).getD 0) := by show _ = _; rw [HRN.out, if_neg hlt]
        clear hwl hlt HRN hiL
        go_wp2_with (fail)
        refine CB.out.mono ?_
        clear CB
        rintro e w2 ⟨rfl, hb⟩
        have HS2 := Lib.hid (HS.out.later hb)
        clear hb d0
        go_wp2
        go_roundw
        case rel => exact ⟨i + 1, k, rfl, by go_num, by omega, by omega, HK.out, HRM.out, HS2.out⟩
        case measure => simp [intOf]; omega
    · have hiI : ¬ (i : Int) < (n : Int) := by omega
      have HE : Hid (R = k) := by show _ = _; rw [HRR.out, List.drop_of_length_le (by rw [← HN.out]; omega)]; rfl
      clear HRR
      have HB := Lib.hid HS.out.below
      go_wp2
      go_ret
      exact ⟨by rw [HE.out]; rfl, HB.out⟩
def lwV (t : T) : Value := .tuple #[.int .i64 (((best t).map (·.1)).getD 0 : Nat), .bool (best t).isSome]
set_option maxHeartbeats 4000000 in
theorem least_any (H : Own.St B w0 w (AT p v t :: Ps)) (ok : Ok t N) : Calls Tryz.prog 96 #[ptr p] w fun e w' => e = .returned (lwV t) ∧ Below w.heap.size w w' := by
  have CC := Lib.hid (all_any H ok 0 (by decide))
  have HH := Lib.hid H
  obtain ⟨L, hL⟩ : ∃ L, L = allL 0 t := ⟨_, rfl⟩
  have hlen : L.length ≤ 256 := by rw [hL]; unfold allL; rw [allF_len]; exact Nat.le_trans List.countP_le_length ok.len
  have HLT : Hid (∀ x ∈ L, x < t.rows.length) := fun x hx => (all_lt (by rw [← hL]; exact hx)).1
  have HBM := Lib.hid (best_min t)
  rw [← hL] at CC HBM
  clear H ok hL
  cases hc : L with
  | nil =>
    have HV : Hid (lwV t = .tuple #[.int .i64 0, .bool false]) := by show _ = _; unfold lwV; rw [HBM.out, hc]; rfl
    rw [HV.out]
    rw [hc] at CC
    clear hc HBM HLT hlen
    go_enter Tryz.func96, Tryz.ntmps96
    go_wp2_with (fail)
    refine CC.out.mono ?_
    clear CC
    rintro e w1 ⟨ao, c, rfl, h⟩
    have HB := Lib.hid h.below
    clear h
    go_wp2
    go_ret2
    exact ⟨rfl, HB.out⟩
  | cons m l =>
    have HV : Hid (lwV t = .tuple #[.int .i64 (((minO t.rows (some m) l).getD 0 : Nat) : Int), .bool true]) := by
      show _ = _
      obtain ⟨k, hk, _⟩ := minO_some t.rows l m
      unfold lwV
      rw [HBM.out, hc, minO, hk]
      rfl
    rw [HV.out]
    have MM := Lib.hid (fun (w1 : World) (ao : Option Addr) (c : Nat) (h1 : Own.St w.heap.size w w1 [RowI (.slice ao L.length c) L L.length]) => min_any HH.out L HLT.out hlen m l hc h1)
    obtain ⟨R, hR⟩ : ∃ R, R = (minO t.rows (some m) l).getD 0 := ⟨_, rfl⟩
    obtain ⟨n, hn⟩ : ∃ n, n = L.length := ⟨_, rfl⟩
    have hn1 : ((n : Int) == 0) = false := by rw [hn, hc]; simp; omega
    rw [← hR] at MM ⊢
    rw [← hn] at CC hlen MM
    clear hc HBM HLT hR hn HV
    go_enter Tryz.func96, Tryz.ntmps96
    go_wp2_with (fail)
    refine CC.out.mono ?_
    clear CC
    rintro e w1 ⟨ao, c, rfl, h⟩
    have M1 := Lib.hid (MM.out w1 ao c h)
    clear h MM
    go_wp2_with (fail)
    refine M1.out.mono ?_
    clear M1
    rintro e w2 ⟨rfl, hb⟩
    have HB := Lib.hid hb
    clear hb
    go_wp2
    go_ret2
    exact ⟨rfl, HB.out⟩
end
end Tba
end Go.Proofs.YtmdphcebmgcdbaaGreat
end
section
namespace Go.Proofs.YtmdphcebmgcdbaaGreat
open Go.RowKit Go.Own
namespace Tba
open Go.TabM Tab
section
variable {B : Nat} {w0 w : World} {Ps : List Asn} {p : Nat} {v : Value} {t : T} {N : Nat}
set_option maxRecDepth 4000 in
set_option maxHeartbeats 4000000 in
theorem open_any (H : Own.St B w0 w (AT p v t :: Ps)) (ok : Ok t N) (hN : N ≤ 100000) : Calls Tryz.prog 69 #[ptr p] w fun e w' => e = .returned (opV (openT t).2) ∧ Own.St B w0 w' (AT p v (openT t).1 :: Ps) := by
  have CC := Lib.hid (cur_any H ok)
  have HH := Lib.hid H
  have HOK := Lib.hid ok
  obtain ⟨X, hX⟩ : ∃ X, X = openT t := ⟨_, rfl⟩
  rw [← hX]
  have HX := Lib.hid hX
  clear hX H ok
  cases hc : cur t with
  | some i =>
    have e1 : curV t = .tuple #[.int .i64 (i : Int), .bool true] := by unfold curV; rw [hc]; rfl
    have e2 : Hid (X = (t, (0, 0, 3))) := by show _ = _; rw [HX.out]; unfold openT; rw [hc]
    rw [e1] at CC
    clear hc e1
    go_enter Tryz.func69, Tryz.ntmps69
    go_wp2_with (fail)
    refine CC.out.mono ?_
    clear CC
    rintro e w1 ⟨rfl, hb⟩
    have H1 := Lib.hid (HH.out.later hb)
    clear hb
    go_wp2
    go_ret3
    rw [e2.out]
    exact ⟨rfl, H1.out⟩
  | none =>
    have e1 : curV t = .tuple #[.int .i64 0, .bool false] := by unfold curV; rw [hc]; rfl
    rw [e1] at CC
    cases hbst : best t with
    | none =>
      have e2 : Hid (X = (t, (0, 0, 5))) := by show _ = _; rw [HX.out]; unfold openT; rw [hc, hbst]
      have e3 : lwV t = .tuple #[.int .i64 0, .bool false] := by unfold lwV; rw [hbst]; rfl
      have LW := Lib.hid (fun (w1 : World) (hb : Below w.heap.size w w1) => least_any (HH.out.later hb) HOK.out)
      rw [e3] at LW
      clear hc e1 hbst e3
      go_enter Tryz.func69, Tryz.ntmps69
      go_wp2_with (fail)
      refine CC.out.mono ?_
      clear CC
      rintro e w1 ⟨rfl, hb⟩
      have H1 := Lib.hid (HH.out.later hb)
      have L1 := Lib.hid (LW.out w1 hb)
      clear hb LW
      go_wp2_with (fail)
      refine L1.out.mono ?_
      clear L1
      rintro e w2 ⟨rfl, hb⟩
      have H2 := Lib.hid (H1.out.later hb)
      clear hb
      go_wp2
      go_ret3
      rw [e2.out]
      exact ⟨rfl, H2.out⟩
    | some pr =>
      obtain ⟨i, we⟩ := pr
      have e2 : Hid (X = (opened t i we, (i, t.next, 0))) := by show _ = _; rw [HX.out]; unfold openT; rw [hc, hbst]
      have e3 : lwV t = .tuple #[.int .i64 (i : Int), .bool true] := by unfold lwV; rw [hbst]; rfl
      have LW := Lib.hid (fun (w1 : World) (hb : Below w.heap.size w w1) => least_any (HH.out.later hb) HOK.out)
      rw [e3] at LW
      obtain ⟨hi, hk, hw⟩ := best_some hbst
      have hweb : we ≤ 100000 := by rw [← hw]; exact Nat.le_trans (HOK.out.wear _ (at_mem hi)) hN
      obtain ⟨nx, hnx⟩ : ∃ x, x = t.next := ⟨_, rfl⟩
      have hnxb : nx ≤ 100001 := by rw [hnx]; have := HOK.out.next; omega
      have HW := Lib.hid hw
      have HNX := Lib.hid hnx
      clear hc e1 hbst e3 hk hw hnx
      go_enter Tryz.func69, Tryz.ntmps69
      go_wp2_with (fail)
      refine CC.out.mono ?_
      clear CC
      rintro e w1 ⟨rfl, hb⟩
      have H1 := Lib.hid (HH.out.later hb)
      have L1 := Lib.hid (LW.out w1 hb)
      clear hb LW
      go_wp2_with (fail)
      refine L1.out.mono ?_
      clear L1
      rintro e w2 ⟨rfl, hb⟩
      have h0 := at_open (H1.out.later hb)
      obtain ⟨ao, cap, rfl⟩ := h0.rowForm 1 rfl
      obtain ⟨g, cc, e, ha⟩ := rowG_at h0 1 rfl i hi
      simp only [Value.slice.injEq, true_and] at e
      obtain ⟨rfl, rfl⟩ := e
      clear hb
      obtain ⟨sq, hsq⟩ : ∃ s, s = (at_ t.rows i).seq := ⟨_, rfl⟩
      obtain ⟨f0, s1⟩ := rowG_set h0 1 rfl i 0 ⟨1, sq, we⟩ (.int .u8 1) hi (by omega) (by rw [hsq, ← HW.out]; rfl)
      simp only [List.set_cons_zero, List.set_cons_succ, Nat.add_zero] at f0 s1
      have hi1 : i < (t.rows.set i ⟨1, sq, we⟩).length := by simpa using hi
      have a1 : at_ (t.rows.set i ⟨1, sq, we⟩) i = ⟨1, sq, we⟩ := at_eq (by rw [List.getElem?_set_self hi])
      obtain ⟨W1, hW1⟩ : ∃ W, W = w2.setCell ⟨g, i * 3, none⟩ (.int .u8 1) := ⟨_, rfl⟩
      rw [← hW1] at s1
      rw [show RowG (.slice (some ⟨g, 0, none⟩) t.rows.length cap) (t.rows.set i ⟨1, sq, we⟩) = RowG (.slice (some ⟨g, 0, none⟩) (t.rows.set i ⟨1, sq, we⟩).length cap) (t.rows.set i ⟨1, sq, we⟩) by rw [List.length_set]] at s1
      have q1 := rowG_at2 s1 1 rfl i hi1
      rw [a1] at q1
      obtain ⟨f1, s2⟩ := rowG_set s1 1 rfl i 1 ⟨1, nx, we⟩ (.int .u64 (nx : Int)) hi1 (by omega) (by rw [a1]; rfl)
      simp only [List.set_cons_zero, List.set_cons_succ, List.set_set, List.length_set] at s2
      obtain ⟨W2, hW2⟩ : ∃ W, W = W1.setCell ⟨g, i * 3 + 1, none⟩ (.int .u64 (nx : Int)) := ⟨_, rfl⟩
      rw [← hW2] at s2
      have hi2 : i < (t.rows.set i ⟨1, nx, we⟩).length := by simpa using hi
      have a2 : at_ (t.rows.set i ⟨1, nx, we⟩) i = ⟨1, nx, we⟩ := at_eq (by rw [List.getElem?_set_self hi])
      rw [show RowG (.slice (some ⟨g, 0, none⟩) t.rows.length cap) (t.rows.set i ⟨1, nx, we⟩) = RowG (.slice (some ⟨g, 0, none⟩) (t.rows.set i ⟨1, nx, we⟩).length cap) (t.rows.set i ⟨1, nx, we⟩) by rw [List.length_set]] at s2
      have q2 := rowG_at2 s2 1 rfl i hi2
      rw [a2] at q2
      obtain ⟨f2, s3⟩ := rowG_set s2 1 rfl i 2 ⟨1, nx, we + 1⟩ (.int .u32 ((we + 1 : Nat) : Int)) hi2 (by omega) (by rw [a2]; rfl)
      simp only [List.set_cons_zero, List.set_cons_succ, List.set_set, List.length_set] at s3
      obtain ⟨W3, hW3⟩ : ∃ W, W = W2.setCell ⟨g, i * 3 + 2, none⟩ (.int .u32 ((we + 1 : Nat) : Int)) := ⟨_, rfl⟩
      rw [← hW3] at s3
      have s4 := s3.storeV 0 rfl 1 (.int .u64 ((nx + 1 : Nat) : Int))
      simp only [List.set_cons_zero, List.set_cons_succ] at s4
      obtain ⟨W4, hW4⟩ : ∃ W, W = W3.setCell ⟨p, 1, none⟩ (.int .u64 ((nx + 1 : Nat) : Int)) := ⟨_, rfl⟩
      rw [← hW4] at s4
      have k0 := (h0.cellV 0 rfl 0 rfl).1
      have k1 := (s1.cellV 0 rfl 1 rfl).1
      have k3 := (s3.cellV 0 rfl 1 rfl).1
      have k3f := (s3.cellV 0 rfl 1 rfl).2
      have m0 := ha.c0
      have m1 := q1.c1
      have m2 := q2.c2
      have s5 : Own.St B w0 W4 (AVals p 97 (tabC (.slice (some ⟨g, 0, none⟩) t.rows.length cap) (opened t i we)) :: RowG (.slice (some ⟨g, 0, none⟩) (t.rows.set i ⟨1, nx, we + 1⟩).length cap) (t.rows.set i ⟨1, nx, we + 1⟩) :: Ps) := by
        rw [List.length_set]
        have e : tabC (.slice (some ⟨g, 0, none⟩) t.rows.length cap) (opened t i we) = [.slice (some ⟨g, 0, none⟩) t.rows.length cap, .int .u64 ((nx + 1 : Nat) : Int)] := by rw [HNX.out]; rfl
        rw [e]
        have e2 : RowG (.slice (some ⟨g, 0, none⟩) t.rows.length cap) (t.rows.set i ⟨1, nx, we + 1⟩) = ARow 106 3 (.slice (some ⟨g, 0, none⟩) t.rows.length cap) (t.rows.set i ⟨1, nx, we + 1⟩).length ((t.rows.set i ⟨1, nx, we + 1⟩).flatMap sgC) := rfl
        exact s4
      have hi3 : i < (t.rows.set i ⟨1, nx, we + 1⟩).length := by simpa using hi
      have a3 : at_ (t.rows.set i ⟨1, nx, we + 1⟩) i = ⟨1, nx, we + 1⟩ := at_eq (by rw [List.getElem?_set_self hi])
      have q3 := rowG_at2 s5 1 rfl i hi3
      rw [a3] at q3
      have n1 := q3.c1
      have HF : Hid (Own.St B w0 W4 (AT p (.slice (some ⟨g, 0, none⟩) t.rows.length cap) (opened t i we) :: Ps)) := Lib.hid (by
        refine at_close ?_
        have e : (opened t i we).rows = t.rows.set i ⟨1, nx, we + 1⟩ := by rw [HNX.out]; rfl
        rw [e]
        rw [List.length_set] at s5
        exact s5)
      simp only at m1 m2 n1
      rw [← HNX.out] at k1 k3
      obtain ⟨n, hn⟩ : ∃ n, n = t.rows.length := ⟨_, rfl⟩
      have hin : i < n := by omega
      have hnb : n ≤ 256 := by rw [hn]; exact HOK.out.len
      rw [← hn] at k0
      have HN := Lib.hid hn
      have E1 := hW1.symm
      have E2 := hW2.symm
      have E3 : W2.setCell ⟨g, i * 3 + 2, none⟩ (.int .u32 ((we : Int) + 1)) = W3 := hW3.symm
      have E4 : W3.setCell ⟨p, 1, none⟩ (.int .u64 ((nx : Int) + 1)) = W4 := hW4.symm
      clear h0 ha hsq s1 s2 s3 s4 s5 q1 q2 q3 a1 a2 a3 hi1 hi2 hi3 hi hW1 hW2 hW3 hW4 hn H1 HH
      go_wp2_with (refine Byt.wpList_val rfl (sat_lt (x := 44) rfl hweb _ _ rfl rfl) ?_)
      go_quiet (fail)
      go_wp2
      go_ret3
      rw [e2.out]
      exact ⟨by rw [← HNX.out]; rfl, HF.out.drewN nq⟩
end
end Tba
end Go.Proofs.YtmdphcebmgcdbaaGreat
end
section
namespace Go.Proofs.YtmdphcebmgcdbaaGreat
open Go.RowKit Go.Own
namespace Srt
section
variable {f : FuncId} {bs cb : Array Value} {cf : Nat → Nat → Int} {Ok : Nat → Prop} {B : Nat} {w0 w : World} {Ts Rs : List Asn} {g n c : Nat} {d : Array Nat}
theorem sift_at (lt : Nat → Nat → Bool) (hi first root c1 c2 r1 e1 e2 : Nat) (d : Array Nat) (h1 : c1 = 2 * root + 1) (h2 : c2 = c1 + 1) (hr : r1 = first + root) (he1 : e1 = first + c1) (he2 : e2 = e1 + 1) (hlt : c1 < hi) :
    Sort.siftDown lt hi first root d = if (decide (c2 < hi) && lt d[e1]! d[e2]!) = true then (if lt d[r1]! d[e2]! = true then Sort.siftDown lt hi first c2 (Sort.swp d r1 e2) else d) else if lt d[r1]! d[e1]! = true then Sort.siftDown lt hi first c1 (Sort.swp d r1 e1) else d := by
  subst h1 h2 hr he1 he2
  rw [Sort.siftDown, dif_neg (by omega)]
  have e : first + (2 * root + 2) = first + (2 * root + 1) + 1 := by omega
  have e' : 2 * root + 1 + 1 = 2 * root + 2 := by omega
  rw [e, e']
  by_cases h1 : (decide (2 * root + 2 < hi) && lt d[first + (2 * root + 1)]! d[first + (2 * root + 1) + 1]!) = true
  · have h1' := h1
    simp only [Bool.and_eq_true, decide_eq_true_eq] at h1'
    rw [if_pos h1, if_pos h1, dif_pos h1'.1]
    by_cases h2 : lt d[first + root]! d[first + (2 * root + 1) + 1]! = true
    · rw [if_pos h2, if_neg (by simp [h2])]
    · rw [if_neg h2, if_pos (by simpa using h2)]
  · rw [if_neg h1, if_neg h1]
    by_cases h2 : lt d[first + root]! d[first + (2 * root + 1)]! = true
    · rw [if_pos h2, if_neg (by simp [h2])]
    · rw [if_neg h2, if_pos (by simpa using h2)]
set_option maxHeartbeats 4000000 in
theorem sift_any (K : Cmp f bs cb cf Ok B w0 Ts) (S : Sd Ok B w0 Ts g n c Rs w d) (lo hi first : Nat) (hlo : lo ≤ n) (hh : first + hi ≤ n) (hn : n ≤ 100000) :
    Calls Tryz.prog 101 #[.slice (some ⟨g, 0, none⟩) n c, .int .i64 (lo : Int), .int .i64 (hi : Int), .int .i64 (first : Int), fvOf f bs cb] w fun e w' => e = .returned (.tuple #[]) ∧ Sd Ok B w0 Ts g n c Rs w' (Sort.siftDown (ltc cf) hi first lo d) := by
  have HS := Lib.hid S
  have ENT := Lib.hid K.ent
  obtain ⟨R, hR⟩ : ∃ R, R = Sort.siftDown (ltc cf) hi first lo d := ⟨_, rfl⟩
  rw [← hR]
  have HR0 := Lib.hid hR.symm
  clear S hR
  go_enter Tryz.func101, Tryz.ntmps101
  go_wp2
  go_loopw [10] (fun v10 wr => ∃ (root : Nat) (dk : Array Nat), v10 = .int .i64 (root : Int) ∧ root ≤ n ∧ Sd Ok B w0 Ts g n c Rs wr dk ∧ Sort.siftDown (ltc cf) hi first root dk = R) (fun v10 _ => n + 1 - (intOf v10).toNat)
  case atStart => exact ⟨lo, d, rfl, hlo, HS.out, HR0.out⟩
  case round =>
    obtain ⟨root, dk, rfl, hrn, hs, heq⟩ := hrel
    have HK := Lib.hid hs
    have HE := Lib.hid heq
    clear hs heq HS HR0
    obtain ⟨c1, hc1⟩ : ∃ x, x = 2 * root + 1 := ⟨_, rfl⟩
    have hc12 : 2 * (root : Int) + 1 = (c1 : Int) := by omega
    have hc1b : c1 ≤ 200001 := by omega
    by_cases hge : hi ≤ c1
    · have HE2 : Hid (R = dk) := by show _ = _; rw [← HE.out, Sort.siftDown, dif_pos (by omega)]
      have hge2 : (hi : Int) ≤ (c1 : Int) := by omega
      clear HE hc1
      go_wp2
      go_end0
      rw [HE2.out]
      exact ⟨rfl, HK.out⟩
    · have hge2 : ¬ (hi : Int) ≤ (c1 : Int) := by omega
      obtain ⟨c2, hc2⟩ : ∃ x, x = c1 + 1 := ⟨_, rfl⟩
      obtain ⟨r1, hr1⟩ : ∃ x, x = first + root := ⟨_, rfl⟩
      obtain ⟨e1, he1⟩ : ∃ x, x = first + c1 := ⟨_, rfl⟩
      obtain ⟨e2, he2⟩ : ∃ x, x = e1 + 1 := ⟨_, rfl⟩
      have hr1n : r1 < n := by omega
      have he1n : e1 < n := by omega
      have HIN0 := Lib.hid (HE.out.symm.trans (sift_at (ltc cf) hi first root c1 c2 r1 e1 e2 dk hc1 hc2 hr1 he1 he2 (by omega)))
      have HC1 := Lib.hid hc1
      have HC2 := Lib.hid hc2
      have HR1 := Lib.hid hr1
      have HE1 := Lib.hid he1
      have HEE := Lib.hid he2
      have HE22 : Hid (e2 = first + c2) := by show _ = _; omega
      have he1b : e1 ≤ 500000 := by omega
      have he2b : e2 ≤ 500000 := by omega
      have hc2b : c2 ≤ 500000 := by omega
      have hr1b : r1 ≤ 500000 := by omega
      have he2n0 : c2 < hi → e2 < n := by intro h; omega
      clear HE hc1 hc2 hr1 he1 he2
      by_cases hg2 : c2 < hi
      · have he2n : e2 < n := he2n0 hg2
        have hgd : decide ((c2 : Int) < (hi : Int)) = true := decide_eq_true (by omega)
        obtain ⟨x, hx⟩ : ∃ x, x = dk[e1]! := ⟨_, rfl⟩
        obtain ⟨y, hy⟩ : ∃ y, y = dk[e2]! := ⟨_, rfl⟩
        obtain ⟨z, hz⟩ : ∃ z, z = cf x y := ⟨_, rfl⟩
        have ASK := Lib.hid (ask_at K HK.out he1n he2n)
        have CX := Lib.hid (cell_at HK.out he1n)
        have CY := Lib.hid (cell_at HK.out he2n)
        rw [← hx, ← hy, ← hz] at ASK
        rw [← hx] at CX
        rw [← hy] at CY
        by_cases hlt : ltc cf x y = true
        · have HT := Lib.hid (ltc_t hlt hz)
          have HIN : Hid (R = if ltc cf dk[r1]! dk[e2]! = true then Sort.siftDown (ltc cf) hi first c2 (Sort.swp dk r1 e2) else dk) := by
            show _ = _
            rw [HIN0.out, ← hx, ← hy, hlt, if_pos (by simp [hg2])]
          clear HIN0 hlt hz hx hy
          go_wp2_with (fail)
          refine lxX ?_; refine lxM (.int .i64 (c1 : Int)) rfl ?_; refine lxR (.tmp 19) (.int .i64 (c1 : Int)) (.int .i64 (c2 : Int)) (fun wx ρ hwx h0 hc => bin_add rfl _ 1 HC2.out (by omega) ρ wx h0 (hc _)) ?_; refine lxM (.int .i64 (hi : Int)) rfl ?_; refine lxT (.tmp 20) (.tmp 21) (.int .i64 (c2 : Int)) (.int .i64 (hi : Int)) (.bool true) (fun wx ρ hwx h0 h1 hc => lss_i rfl hgd ρ wx h0 h1) ?_; refine lxM (.bool true) rfl ?_; refine lxM (fvOf f bs cb) rfl ?_; refine lxM (.slice (some ⟨g, 0, none⟩) n c) rfl ?_; refine lxM (.int .i64 (first : Int)) rfl ?_; refine lxM (.int .i64 (c1 : Int)) rfl ?_; refine lxT (.tmp 26) (.tmp 27) (.int .i64 (first : Int)) (.int .i64 (c1 : Int)) (.int .i64 (e1 : Int)) (fun wx ρ hwx h0 h1 hc => bin_add rfl _ _ HE1.out (by omega) ρ wx h0 h1) ?_; refine lxT (.tmp 25) (.tmp 28) (.slice (some ⟨g, 0, none⟩) n c) (.int .i64 (e1 : Int)) (.pointer (some ⟨g, e1, none⟩)) (fun wx ρ hwx h0 h1 hc => idx_i rfl he1n ρ wx h0 h1) ?_; refine lxR (.tmp 29) (.pointer (some ⟨g, e1, none⟩)) (iV x) (fun wx ρ hwx h0 hc => load_i rfl ρ (CX.out wx hwx) h0) ?_; refine lxM (.slice (some ⟨g, 0, none⟩) n c) rfl ?_; refine lxM (.int .i64 (first : Int)) rfl ?_; refine lxM (.int .i64 (c1 : Int)) rfl ?_; refine lxT (.tmp 32) (.tmp 33) (.int .i64 (first : Int)) (.int .i64 (c1 : Int)) (.int .i64 (e1 : Int)) (fun wx ρ hwx h0 h1 hc => bin_add rfl _ _ HE1.out (by omega) ρ wx h0 h1) ?_; refine lxR (.tmp 34) (.int .i64 (e1 : Int)) (.int .i64 (e2 : Int)) (fun wx ρ hwx h0 hc => bin_add rfl _ 1 HEE.out (by omega) ρ wx h0 (hc _)) ?_; refine lxT (.tmp 31) (.tmp 35) (.slice (some ⟨g, 0, none⟩) n c) (.int .i64 (e2 : Int)) (.pointer (some ⟨g, e2, none⟩)) (fun wx ρ hwx h0 h1 hc => idx_i rfl he2n ρ wx h0 h1) ?_; refine lxR (.tmp 36) (.pointer (some ⟨g, e2, none⟩)) (iV y) (fun wx ρ hwx h0 hc => load_i rfl ρ (CY.out wx hwx) h0) ?_
          refine wpL_val (.int .i64 z) [iV x, iV y] (by kernel_rfl) (by kernel_rfl) rfl (by kernel_rfl) (by kernel_rfl) (by kernel_rfl) (by kernel_rfl) ENT.out (fun wx hwx => ASK.out wx hwx) ?_
          refine lxR (.tmp 38) (.int .i64 z) (.bool true) (fun wx ρ hwx h0 hc => lss_i rfl HT.out ρ wx h0 (hc _)) ?_; refine lxB (.tmp 23) (.tmp 39) (.bool true) (.bool true) (.bool true) ?_
          refine wpL_end (by kernel_rfl) (fun w1 hw1 => ?_)
          simp only [FinL, setL, List.set_cons_zero, List.set_cons_succ]
          have H4 := Lib.hid (HK.out.later hw1)
          clear ASK CX CY
          have hc22 : (c1 : Int) + 1 = (c2 : Int) := by have := HC2.out; omega
          obtain ⟨p, hp⟩ : ∃ x, x = dk[r1]! := ⟨_, rfl⟩
          obtain ⟨q, hq⟩ : ∃ y, y = dk[e2]! := ⟨_, rfl⟩
          obtain ⟨z2, hz2⟩ : ∃ z, z = cf p q := ⟨_, rfl⟩
          have ASK2 := Lib.hid (ask_at K H4.out hr1n he2n)
          have CP := Lib.hid (cell_at H4.out hr1n)
          have CQ := Lib.hid (cell_at H4.out he2n)
          rw [← hp, ← hq, ← hz2] at ASK2
          rw [← hp] at CP
          rw [← hq] at CQ
          have HIN2 : Hid (R = if ltc cf p q = true then Sort.siftDown (ltc cf) hi first c2 (Sort.swp dk r1 e2) else dk) := by show _ = _; rw [hp, hq]; exact HIN.out
          by_cases hl2 : ltc cf p q = true
          · have HT2 := Lib.hid (ltc_t hl2 hz2)
            have HE2 : Hid (Sort.siftDown (ltc cf) hi first c2 (Sort.swp dk r1 e2) = R) := by show _ = _; rw [HIN2.out, if_pos hl2]
            clear HIN HIN2 hl2 hz2 hp hq
            go_wp2_with (fail)
            refine lxX ?_; refine lxM (fvOf f bs cb) rfl ?_; refine lxM (.slice (some ⟨g, 0, none⟩) n c) rfl ?_; refine lxM (.int .i64 (first : Int)) rfl ?_; refine lxM (.int .i64 (root : Int)) rfl ?_; refine lxT (.tmp 45) (.tmp 46) (.int .i64 (first : Int)) (.int .i64 (root : Int)) (.int .i64 (r1 : Int)) (fun wx ρ hwx h0 h1 hc => bin_add rfl _ _ HR1.out (by omega) ρ wx h0 h1) ?_; refine lxT (.tmp 44) (.tmp 47) (.slice (some ⟨g, 0, none⟩) n c) (.int .i64 (r1 : Int)) (.pointer (some ⟨g, r1, none⟩)) (fun wx ρ hwx h0 h1 hc => idx_i rfl hr1n ρ wx h0 h1) ?_; refine lxR (.tmp 48) (.pointer (some ⟨g, r1, none⟩)) (iV p) (fun wx ρ hwx h0 hc => load_i rfl ρ (CP.out wx hwx) h0) ?_; refine lxM (.slice (some ⟨g, 0, none⟩) n c) rfl ?_; refine lxM (.int .i64 (first : Int)) rfl ?_; refine lxM (.int .i64 (c2 : Int)) rfl ?_; refine lxT (.tmp 51) (.tmp 52) (.int .i64 (first : Int)) (.int .i64 (c2 : Int)) (.int .i64 (e2 : Int)) (fun wx ρ hwx h0 h1 hc => bin_add rfl _ _ HE22.out (by omega) ρ wx h0 h1) ?_; refine lxT (.tmp 50) (.tmp 53) (.slice (some ⟨g, 0, none⟩) n c) (.int .i64 (e2 : Int)) (.pointer (some ⟨g, e2, none⟩)) (fun wx ρ hwx h0 h1 hc => idx_i rfl he2n ρ wx h0 h1) ?_; refine lxR (.tmp 54) (.pointer (some ⟨g, e2, none⟩)) (iV q) (fun wx ρ hwx h0 hc => load_i rfl ρ (CQ.out wx hwx) h0) ?_
            refine wpL_val (.int .i64 z2) [iV p, iV q] (by kernel_rfl) (by kernel_rfl) rfl (by kernel_rfl) (by kernel_rfl) (by kernel_rfl) (by kernel_rfl) ENT.out (fun wx hwx => ASK2.out wx hwx) ?_
            refine lxR (.tmp 56) (.int .i64 z2) (.bool true) (fun wx ρ hwx h0 hc => lss_i rfl HT2.out ρ wx h0 (hc _)) ?_; refine lxR (.tmp 57) (.bool true) (.bool false) (fun wx ρ hwx h0 hc => not_b rfl rfl ρ wx h0) ?_
            refine wpL_end (by kernel_rfl) (fun w1 hw1 => ?_)
            simp only [FinL, setL, List.set_cons_zero, List.set_cons_succ]
            have H5 := Lib.hid (H4.out.later hw1)
            obtain ⟨xi, hxi⟩ : ∃ x, x = dk[r1]! := ⟨_, rfl⟩
            obtain ⟨xj, hxj⟩ : ∃ x, x = dk[e2]! := ⟨_, rfl⟩
            have H2 := Lib.hid (H5.out.swap hr1n he2n).drew
            have k1 := H5.out.cell hr1n
            have k2 := H5.out.cell he2n
            have f1 := H5.out.froz hr1n
            have f2 := H5.out.froz he2n
            obtain ⟨u, k3⟩ := H5.out.swap2 hr1n he2n
            rw [← hxi, ← hxj] at H2
            rw [← hxi] at k1
            rw [← hxj] at k2 k3
            clear hxi hxj
            have hs1 : IntKind.i64.wrap ((first : Int) + (root : Int)) = (r1 : Int) := by have := HR1.out; rw [IntKind.wrap_i64]; omega
            have hs2 : IntKind.i64.wrap ((first : Int) + (c2 : Int)) = (e2 : Int) := by have := HE22.out; rw [IntKind.wrap_i64]; omega
            clear ASK2 CP CQ hc12
            go_wp2_with (fail)
            go_region
            go_wp2
            go_roundw
            case rel => exact ⟨c2, Sort.swp dk r1 e2, rfl, by have := HE1.out; have := HC2.out; omega, H2.out, HE2.out⟩
            case measure => have := HC2.out; have := HC1.out; simp [intOf]; omega
          · have hlf : ltc cf p q = false := by simpa using hl2
            have HT2 := Lib.hid (ltc_t hlf hz2)
            have HE2 : Hid (R = dk) := by show _ = _; rw [HIN2.out, if_neg hl2]
            clear HIN HIN2 hl2 hlf hz2 hp hq
            go_wp2_with (fail)
            refine lxX ?_; refine lxM (fvOf f bs cb) rfl ?_; refine lxM (.slice (some ⟨g, 0, none⟩) n c) rfl ?_; refine lxM (.int .i64 (first : Int)) rfl ?_; refine lxM (.int .i64 (root : Int)) rfl ?_; refine lxT (.tmp 45) (.tmp 46) (.int .i64 (first : Int)) (.int .i64 (root : Int)) (.int .i64 (r1 : Int)) (fun wx ρ hwx h0 h1 hc => bin_add rfl _ _ HR1.out (by omega) ρ wx h0 h1) ?_; refine lxT (.tmp 44) (.tmp 47) (.slice (some ⟨g, 0, none⟩) n c) (.int .i64 (r1 : Int)) (.pointer (some ⟨g, r1, none⟩)) (fun wx ρ hwx h0 h1 hc => idx_i rfl hr1n ρ wx h0 h1) ?_; refine lxR (.tmp 48) (.pointer (some ⟨g, r1, none⟩)) (iV p) (fun wx ρ hwx h0 hc => load_i rfl ρ (CP.out wx hwx) h0) ?_; refine lxM (.slice (some ⟨g, 0, none⟩) n c) rfl ?_; refine lxM (.int .i64 (first : Int)) rfl ?_; refine lxM (.int .i64 (c2 : Int)) rfl ?_; refine lxT (.tmp 51) (.tmp 52) (.int .i64 (first : Int)) (.int .i64 (c2 : Int)) (.int .i64 (e2 : Int)) (fun wx ρ hwx h0 h1 hc => bin_add rfl _ _ HE22.out (by omega) ρ wx h0 h1) ?_; refine lxT (.tmp 50) (.tmp 53) (.slice (some ⟨g, 0, none⟩) n c) (.int .i64 (e2 : Int)) (.pointer (some ⟨g, e2, none⟩)) (fun wx ρ hwx h0 h1 hc => idx_i rfl he2n ρ wx h0 h1) ?_; refine lxR (.tmp 54) (.pointer (some ⟨g, e2, none⟩)) (iV q) (fun wx ρ hwx h0 hc => load_i rfl ρ (CQ.out wx hwx) h0) ?_
            refine wpL_val (.int .i64 z2) [iV p, iV q] (by kernel_rfl) (by kernel_rfl) rfl (by kernel_rfl) (by kernel_rfl) (by kernel_rfl) (by kernel_rfl) ENT.out (fun wx hwx => ASK2.out wx hwx) ?_
            refine lxR (.tmp 56) (.int .i64 z2) (.bool false) (fun wx ρ hwx h0 hc => lss_i rfl HT2.out ρ wx h0 (hc _)) ?_; refine lxR (.tmp 57) (.bool false) (.bool true) (fun wx ρ hwx h0 hc => not_b rfl rfl ρ wx h0) ?_
            refine wpL_end (by kernel_rfl) (fun w1 hw1 => ?_)
            simp only [FinL, setL, List.set_cons_zero, List.set_cons_succ]
            have H5 := Lib.hid (H4.out.later hw1)
            clear ASK2 CP CQ
            go_wp2
            refine bodyPost_ret (results_none rfl _ _ _) rfl ?_
            rw [HE2.out]
            exact ⟨rfl, H5.out⟩
        · have hlf : ltc cf x y = false := by simpa using hlt
          have HT := Lib.hid (ltc_t hlf hz)
          have HIN : Hid (R = if ltc cf dk[r1]! dk[e1]! = true then Sort.siftDown (ltc cf) hi first c1 (Sort.swp dk r1 e1) else dk) := by
            show _ = _
            rw [HIN0.out, ← hx, ← hy, hlf, if_neg (by simp)]
          clear HIN0 hlt hlf hz hx hy
          go_wp2_with (fail)
          refine lxX ?_; refine lxM (.int .i64 (c1 : Int)) rfl ?_; refine lxR (.tmp 19) (.int .i64 (c1 : Int)) (.int .i64 (c2 : Int)) (fun wx ρ hwx h0 hc => bin_add rfl _ 1 HC2.out (by omega) ρ wx h0 (hc _)) ?_; refine lxM (.int .i64 (hi : Int)) rfl ?_; refine lxT (.tmp 20) (.tmp 21) (.int .i64 (c2 : Int)) (.int .i64 (hi : Int)) (.bool true) (fun wx ρ hwx h0 h1 hc => lss_i rfl hgd ρ wx h0 h1) ?_; refine lxM (.bool true) rfl ?_; refine lxM (fvOf f bs cb) rfl ?_; refine lxM (.slice (some ⟨g, 0, none⟩) n c) rfl ?_; refine lxM (.int .i64 (first : Int)) rfl ?_; refine lxM (.int .i64 (c1 : Int)) rfl ?_; refine lxT (.tmp 26) (.tmp 27) (.int .i64 (first : Int)) (.int .i64 (c1 : Int)) (.int .i64 (e1 : Int)) (fun wx ρ hwx h0 h1 hc => bin_add rfl _ _ HE1.out (by omega) ρ wx h0 h1) ?_; refine lxT (.tmp 25) (.tmp 28) (.slice (some ⟨g, 0, none⟩) n c) (.int .i64 (e1 : Int)) (.pointer (some ⟨g, e1, none⟩)) (fun wx ρ hwx h0 h1 hc => idx_i rfl he1n ρ wx h0 h1) ?_; refine lxR (.tmp 29) (.pointer (some ⟨g, e1, none⟩)) (iV x) (fun wx ρ hwx h0 hc => load_i rfl ρ (CX.out wx hwx) h0) ?_; refine lxM (.slice (some ⟨g, 0, none⟩) n c) rfl ?_; refine lxM (.int .i64 (first : Int)) rfl ?_; refine lxM (.int .i64 (c1 : Int)) rfl ?_; refine lxT (.tmp 32) (.tmp 33) (.int .i64 (first : Int)) (.int .i64 (c1 : Int)) (.int .i64 (e1 : Int)) (fun wx ρ hwx h0 h1 hc => bin_add rfl _ _ HE1.out (by omega) ρ wx h0 h1) ?_; refine lxR (.tmp 34) (.int .i64 (e1 : Int)) (.int .i64 (e2 : Int)) (fun wx ρ hwx h0 hc => bin_add rfl _ 1 HEE.out (by omega) ρ wx h0 (hc _)) ?_; refine lxT (.tmp 31) (.tmp 35) (.slice (some ⟨g, 0, none⟩) n c) (.int .i64 (e2 : Int)) (.pointer (some ⟨g, e2, none⟩)) (fun wx ρ hwx h0 h1 hc => idx_i rfl he2n ρ wx h0 h1) ?_; refine lxR (.tmp 36) (.pointer (some ⟨g, e2, none⟩)) (iV y) (fun wx ρ hwx h0 hc => load_i rfl ρ (CY.out wx hwx) h0) ?_
          refine wpL_val (.int .i64 z) [iV x, iV y] (by kernel_rfl) (by kernel_rfl) rfl (by kernel_rfl) (by kernel_rfl) (by kernel_rfl) (by kernel_rfl) ENT.out (fun wx hwx => ASK.out wx hwx) ?_
          refine lxR (.tmp 38) (.int .i64 z) (.bool false) (fun wx ρ hwx h0 hc => lss_i rfl HT.out ρ wx h0 (hc _)) ?_; refine lxB (.tmp 23) (.tmp 39) (.bool true) (.bool false) (.bool false) ?_
          refine wpL_end (by kernel_rfl) (fun w1 hw1 => ?_)
          simp only [FinL, setL, List.set_cons_zero, List.set_cons_succ]
          have H4 := Lib.hid (HK.out.later hw1)
          clear ASK CX CY
          obtain ⟨p, hp⟩ : ∃ x, x = dk[r1]! := ⟨_, rfl⟩
          obtain ⟨q, hq⟩ : ∃ y, y = dk[e1]! := ⟨_, rfl⟩
          obtain ⟨z2, hz2⟩ : ∃ z, z = cf p q := ⟨_, rfl⟩
          have ASK2 := Lib.hid (ask_at K H4.out hr1n he1n)
          have CP := Lib.hid (cell_at H4.out hr1n)
          have CQ := Lib.hid (cell_at H4.out he1n)
          rw [← hp, ← hq, ← hz2] at ASK2
          rw [← hp] at CP
          rw [← hq] at CQ
          have HIN2 : Hid (R = if ltc cf p q = true then Sort.siftDown (ltc cf) hi first c1 (Sort.swp dk r1 e1) else dk) := by show _ = _; rw [hp, hq]; exact HIN.out
          by_cases hl2 : ltc cf p q = true
          · have HT2 := Lib.hid (ltc_t hl2 hz2)
            have HE2 : Hid (Sort.siftDown (ltc cf) hi first c1 (Sort.swp dk r1 e1) = R) := by show _ = _; rw [HIN2.out, if_pos hl2]
            clear HIN HIN2 hl2 hz2 hp hq
            go_wp2_with (fail)
            refine lxX ?_; refine lxM (fvOf f bs cb) rfl ?_; refine lxM (.slice (some ⟨g, 0, none⟩) n c) rfl ?_; refine lxM (.int .i64 (first : Int)) rfl ?_; refine lxM (.int .i64 (root : Int)) rfl ?_; refine lxT (.tmp 45) (.tmp 46) (.int .i64 (first : Int)) (.int .i64 (root : Int)) (.int .i64 (r1 : Int)) (fun wx ρ hwx h0 h1 hc => bin_add rfl _ _ HR1.out (by omega) ρ wx h0 h1) ?_; refine lxT (.tmp 44) (.tmp 47) (.slice (some ⟨g, 0, none⟩) n c) (.int .i64 (r1 : Int)) (.pointer (some ⟨g, r1, none⟩)) (fun wx ρ hwx h0 h1 hc => idx_i rfl hr1n ρ wx h0 h1) ?_; refine lxR (.tmp 48) (.pointer (some ⟨g, r1, none⟩)) (iV p) (fun wx ρ hwx h0 hc => load_i rfl ρ (CP.out wx hwx) h0) ?_; refine lxM (.slice (some ⟨g, 0, none⟩) n c) rfl ?_; refine lxM (.int .i64 (first : Int)) rfl ?_; refine lxM (.int .i64 (c1 : Int)) rfl ?_; refine lxT (.tmp 51) (.tmp 52) (.int .i64 (first : Int)) (.int .i64 (c1 : Int)) (.int .i64 (e1 : Int)) (fun wx ρ hwx h0 h1 hc => bin_add rfl _ _ HE1.out (by omega) ρ wx h0 h1) ?_; refine lxT (.tmp 50) (.tmp 53) (.slice (some ⟨g, 0, none⟩) n c) (.int .i64 (e1 : Int)) (.pointer (some ⟨g, e1, none⟩)) (fun wx ρ hwx h0 h1 hc => idx_i rfl he1n ρ wx h0 h1) ?_; refine lxR (.tmp 54) (.pointer (some ⟨g, e1, none⟩)) (iV q) (fun wx ρ hwx h0 hc => load_i rfl ρ (CQ.out wx hwx) h0) ?_
            refine wpL_val (.int .i64 z2) [iV p, iV q] (by kernel_rfl) (by kernel_rfl) rfl (by kernel_rfl) (by kernel_rfl) (by kernel_rfl) (by kernel_rfl) ENT.out (fun wx hwx => ASK2.out wx hwx) ?_
            refine lxR (.tmp 56) (.int .i64 z2) (.bool true) (fun wx ρ hwx h0 hc => lss_i rfl HT2.out ρ wx h0 (hc _)) ?_; refine lxR (.tmp 57) (.bool true) (.bool false) (fun wx ρ hwx h0 hc => not_b rfl rfl ρ wx h0) ?_
            refine wpL_end (by kernel_rfl) (fun w1 hw1 => ?_)
            simp only [FinL, setL, List.set_cons_zero, List.set_cons_succ]
            have H5 := Lib.hid (H4.out.later hw1)
            obtain ⟨xi, hxi⟩ : ∃ x, x = dk[r1]! := ⟨_, rfl⟩
            obtain ⟨xj, hxj⟩ : ∃ x, x = dk[e1]! := ⟨_, rfl⟩
            have H2 := Lib.hid (H5.out.swap hr1n he1n).drew
            have k1 := H5.out.cell hr1n
            have k2 := H5.out.cell he1n
            have f1 := H5.out.froz hr1n
            have f2 := H5.out.froz he1n
            obtain ⟨u, k3⟩ := H5.out.swap2 hr1n he1n
            rw [← hxi, ← hxj] at H2
            rw [← hxi] at k1
            rw [← hxj] at k2 k3
            clear hxi hxj
            have hs1 : IntKind.i64.wrap ((first : Int) + (root : Int)) = (r1 : Int) := by have := HR1.out; rw [IntKind.wrap_i64]; omega
            have hs2 : IntKind.i64.wrap ((first : Int) + (c1 : Int)) = (e1 : Int) := by have := HE1.out; rw [IntKind.wrap_i64]; omega
            clear ASK2 CP CQ hc12
            go_wp2_with (fail)
            go_region
            go_wp2
            go_roundw
            case rel => exact ⟨c1, Sort.swp dk r1 e1, rfl, by have := HE1.out; have := HC2.out; omega, H2.out, HE2.out⟩
            case measure => have := HC2.out; have := HC1.out; simp [intOf]; omega
          · have hlf : ltc cf p q = false := by simpa using hl2
            have HT2 := Lib.hid (ltc_t hlf hz2)
            have HE2 : Hid (R = dk) := by show _ = _; rw [HIN2.out, if_neg hl2]
            clear HIN HIN2 hl2 hlf hz2 hp hq
            go_wp2_with (fail)
            refine lxX ?_; refine lxM (fvOf f bs cb) rfl ?_; refine lxM (.slice (some ⟨g, 0, none⟩) n c) rfl ?_; refine lxM (.int .i64 (first : Int)) rfl ?_; refine lxM (.int .i64 (root : Int)) rfl ?_; refine lxT (.tmp 45) (.tmp 46) (.int .i64 (first : Int)) (.int .i64 (root : Int)) (.int .i64 (r1 : Int)) (fun wx ρ hwx h0 h1 hc => bin_add rfl _ _ HR1.out (by omega) ρ wx h0 h1) ?_; refine lxT (.tmp 44) (.tmp 47) (.slice (some ⟨g, 0, none⟩) n c) (.int .i64 (r1 : Int)) (.pointer (some ⟨g, r1, none⟩)) (fun wx ρ hwx h0 h1 hc => idx_i rfl hr1n ρ wx h0 h1) ?_; refine lxR (.tmp 48) (.pointer (some ⟨g, r1, none⟩)) (iV p) (fun wx ρ hwx h0 hc => load_i rfl ρ (CP.out wx hwx) h0) ?_; refine lxM (.slice (some ⟨g, 0, none⟩) n c) rfl ?_; refine lxM (.int .i64 (first : Int)) rfl ?_; refine lxM (.int .i64 (c1 : Int)) rfl ?_; refine lxT (.tmp 51) (.tmp 52) (.int .i64 (first : Int)) (.int .i64 (c1 : Int)) (.int .i64 (e1 : Int)) (fun wx ρ hwx h0 h1 hc => bin_add rfl _ _ HE1.out (by omega) ρ wx h0 h1) ?_; refine lxT (.tmp 50) (.tmp 53) (.slice (some ⟨g, 0, none⟩) n c) (.int .i64 (e1 : Int)) (.pointer (some ⟨g, e1, none⟩)) (fun wx ρ hwx h0 h1 hc => idx_i rfl he1n ρ wx h0 h1) ?_; refine lxR (.tmp 54) (.pointer (some ⟨g, e1, none⟩)) (iV q) (fun wx ρ hwx h0 hc => load_i rfl ρ (CQ.out wx hwx) h0) ?_
            refine wpL_val (.int .i64 z2) [iV p, iV q] (by kernel_rfl) (by kernel_rfl) rfl (by kernel_rfl) (by kernel_rfl) (by kernel_rfl) (by kernel_rfl) ENT.out (fun wx hwx => ASK2.out wx hwx) ?_
            refine lxR (.tmp 56) (.int .i64 z2) (.bool false) (fun wx ρ hwx h0 hc => lss_i rfl HT2.out ρ wx h0 (hc _)) ?_; refine lxR (.tmp 57) (.bool false) (.bool true) (fun wx ρ hwx h0 hc => not_b rfl rfl ρ wx h0) ?_
            refine wpL_end (by kernel_rfl) (fun w1 hw1 => ?_)
            simp only [FinL, setL, List.set_cons_zero, List.set_cons_succ]
            have H5 := Lib.hid (H4.out.later hw1)
            clear ASK2 CP CQ
            go_wp2
            refine bodyPost_ret (results_none rfl _ _ _) rfl ?_
            rw [HE2.out]
            exact ⟨rfl, H5.out⟩
      · have hgd : decide ((c2 : Int) < (hi : Int)) = false := decide_eq_false (by omega)
        have HIN : Hid (R = if ltc cf dk[r1]! dk[e1]! = true then Sort.siftDown (ltc cf) hi first c1 (Sort.swp dk r1 e1) else dk) := by
          show _ = _
          rw [HIN0.out, if_neg (by simp [hg2])]
        clear HIN0
        go_wp2_with (fail)
        refine lxX ?_; refine lxM (.int .i64 (c1 : Int)) rfl ?_; refine lxR (.tmp 19) (.int .i64 (c1 : Int)) (.int .i64 (c2 : Int)) (fun wx ρ hwx h0 hc => bin_add rfl _ 1 HC2.out (by omega) ρ wx h0 (hc _)) ?_; refine lxM (.int .i64 (hi : Int)) rfl ?_; refine lxT (.tmp 20) (.tmp 21) (.int .i64 (c2 : Int)) (.int .i64 (hi : Int)) (.bool false) (fun wx ρ hwx h0 h1 hc => lss_i rfl hgd ρ wx h0 h1) ?_; refine lxM (.bool false) rfl ?_; refine lxS ?_; refine lxS ?_; refine lxS ?_; refine lxS ?_; refine lxS ?_; refine lxS ?_; refine lxS ?_; refine lxS ?_; refine lxS ?_; refine lxS ?_; refine lxS ?_; refine lxS ?_; refine lxS ?_; refine lxS ?_; refine lxS ?_; refine lxS ?_; refine lxR (.tmp 23) (.bool false) (.bool false) (fun wx ρ hwx h0 hc => by simp [go_sem, h0, hc]) ?_
        refine wpL_end (by kernel_rfl) (fun w1 hw1 => ?_)
        simp only [FinL, setL, List.set_cons_zero, List.set_cons_succ]
        have H4 := Lib.hid (HK.out.later hw1)
        obtain ⟨p, hp⟩ : ∃ x, x = dk[r1]! := ⟨_, rfl⟩
        obtain ⟨q, hq⟩ : ∃ y, y = dk[e1]! := ⟨_, rfl⟩
        obtain ⟨z2, hz2⟩ : ∃ z, z = cf p q := ⟨_, rfl⟩
        have ASK2 := Lib.hid (ask_at K H4.out hr1n he1n)
        have CP := Lib.hid (cell_at H4.out hr1n)
        have CQ := Lib.hid (cell_at H4.out he1n)
        rw [← hp, ← hq, ← hz2] at ASK2
        rw [← hp] at CP
        rw [← hq] at CQ
        have HIN2 : Hid (R = if ltc cf p q = true then Sort.siftDown (ltc cf) hi first c1 (Sort.swp dk r1 e1) else dk) := by show _ = _; rw [hp, hq]; exact HIN.out
        by_cases hl2 : ltc cf p q = true
        · have HT2 := Lib.hid (ltc_t hl2 hz2)
          have HE2 : Hid (Sort.siftDown (ltc cf) hi first c1 (Sort.swp dk r1 e1) = R) := by show _ = _; rw [HIN2.out, if_pos hl2]
          clear HIN HIN2 hl2 hz2 hp hq
          go_wp2_with (fail)
          refine lxX ?_; refine lxM (fvOf f bs cb) rfl ?_; refine lxM (.slice (some ⟨g, 0, none⟩) n c) rfl ?_; refine lxM (.int .i64 (first : Int)) rfl ?_; refine lxM (.int .i64 (root : Int)) rfl ?_; refine lxT (.tmp 45) (.tmp 46) (.int .i64 (first : Int)) (.int .i64 (root : Int)) (.int .i64 (r1 : Int)) (fun wx ρ hwx h0 h1 hc => bin_add rfl _ _ HR1.out (by omega) ρ wx h0 h1) ?_; refine lxT (.tmp 44) (.tmp 47) (.slice (some ⟨g, 0, none⟩) n c) (.int .i64 (r1 : Int)) (.pointer (some ⟨g, r1, none⟩)) (fun wx ρ hwx h0 h1 hc => idx_i rfl hr1n ρ wx h0 h1) ?_; refine lxR (.tmp 48) (.pointer (some ⟨g, r1, none⟩)) (iV p) (fun wx ρ hwx h0 hc => load_i rfl ρ (CP.out wx hwx) h0) ?_; refine lxM (.slice (some ⟨g, 0, none⟩) n c) rfl ?_; refine lxM (.int .i64 (first : Int)) rfl ?_; refine lxM (.int .i64 (c1 : Int)) rfl ?_; refine lxT (.tmp 51) (.tmp 52) (.int .i64 (first : Int)) (.int .i64 (c1 : Int)) (.int .i64 (e1 : Int)) (fun wx ρ hwx h0 h1 hc => bin_add rfl _ _ HE1.out (by omega) ρ wx h0 h1) ?_; refine lxT (.tmp 50) (.tmp 53) (.slice (some ⟨g, 0, none⟩) n c) (.int .i64 (e1 : Int)) (.pointer (some ⟨g, e1, none⟩)) (fun wx ρ hwx h0 h1 hc => idx_i rfl he1n ρ wx h0 h1) ?_; refine lxR (.tmp 54) (.pointer (some ⟨g, e1, none⟩)) (iV q) (fun wx ρ hwx h0 hc => load_i rfl ρ (CQ.out wx hwx) h0) ?_
          refine wpL_val (.int .i64 z2) [iV p, iV q] (by kernel_rfl) (by kernel_rfl) rfl (by kernel_rfl) (by kernel_rfl) (by kernel_rfl) (by kernel_rfl) ENT.out (fun wx hwx => ASK2.out wx hwx) ?_
          refine lxR (.tmp 56) (.int .i64 z2) (.bool true) (fun wx ρ hwx h0 hc => lss_i rfl HT2.out ρ wx h0 (hc _)) ?_; refine lxR (.tmp 57) (.bool true) (.bool false) (fun wx ρ hwx h0 hc => not_b rfl rfl ρ wx h0) ?_
          refine wpL_end (by kernel_rfl) (fun w1 hw1 => ?_)
          simp only [FinL, setL, List.set_cons_zero, List.set_cons_succ]
          have H5 := Lib.hid (H4.out.later hw1)
          obtain ⟨xi, hxi⟩ : ∃ x, x = dk[r1]! := ⟨_, rfl⟩
          obtain ⟨xj, hxj⟩ : ∃ x, x = dk[e1]! := ⟨_, rfl⟩
          have H2 := Lib.hid (H5.out.swap hr1n he1n).drew
          have k1 := H5.out.cell hr1n
          have k2 := H5.out.cell he1n
          have f1 := H5.out.froz hr1n
          have f2 := H5.out.froz he1n
          obtain ⟨u, k3⟩ := H5.out.swap2 hr1n he1n
          rw [← hxi, ← hxj] at H2
          rw [← hxi] at k1
          rw [← hxj] at k2 k3
          clear hxi hxj
          have hs1 : IntKind.i64.wrap ((first : Int) + (root : Int)) = (r1 : Int) := by have := HR1.out; rw [IntKind.wrap_i64]; omega
          have hs2 : IntKind.i64.wrap ((first : Int) + (c1 : Int)) = (e1 : Int) := by have := HE1.out; rw [IntKind.wrap_i64]; omega
          clear ASK2 CP CQ hc12
          go_wp2_with (fail)
          go_region
          go_wp2
          go_roundw
          case rel => exact ⟨c1, Sort.swp dk r1 e1, rfl, by have := HE1.out; have := HC2.out; omega, H2.out, HE2.out⟩
          case measure => have := HC2.out; have := HC1.out; simp [intOf]; omega
        · have hlf : ltc cf p q = false := by simpa using hl2
          have HT2 := Lib.hid (ltc_t hlf hz2)
          have HE2 : Hid (R = dk) := by show _ = _; rw [HIN2.out, if_neg hl2]
          clear HIN HIN2 hl2 hlf hz2 hp hq
          go_wp2_with (fail)
          refine lxX ?_; refine lxM (fvOf f bs cb) rfl ?_; refine lxM (.slice (some ⟨g, 0, none⟩) n c) rfl ?_; refine lxM (.int .i64 (first : Int)) rfl ?_; refine lxM (.int .i64 (root : Int)) rfl ?_; refine lxT (.tmp 45) (.tmp 46) (.int .i64 (first : Int)) (.int .i64 (root : Int)) (.int .i64 (r1 : Int)) (fun wx ρ hwx h0 h1 hc => bin_add rfl _ _ HR1.out (by omega) ρ wx h0 h1) ?_; refine lxT (.tmp 44) (.tmp 47) (.slice (some ⟨g, 0, none⟩) n c) (.int .i64 (r1 : Int)) (.pointer (some ⟨g, r1, none⟩)) (fun wx ρ hwx h0 h1 hc => idx_i rfl hr1n ρ wx h0 h1) ?_; refine lxR (.tmp 48) (.pointer (some ⟨g, r1, none⟩)) (iV p) (fun wx ρ hwx h0 hc => load_i rfl ρ (CP.out wx hwx) h0) ?_; refine lxM (.slice (some ⟨g, 0, none⟩) n c) rfl ?_; refine lxM (.int .i64 (first : Int)) rfl ?_; refine lxM (.int .i64 (c1 : Int)) rfl ?_; refine lxT (.tmp 51) (.tmp 52) (.int .i64 (first : Int)) (.int .i64 (c1 : Int)) (.int .i64 (e1 : Int)) (fun wx ρ hwx h0 h1 hc => bin_add rfl _ _ HE1.out (by omega) ρ wx h0 h1) ?_; refine lxT (.tmp 50) (.tmp 53) (.slice (some ⟨g, 0, none⟩) n c) (.int .i64 (e1 : Int)) (.pointer (some ⟨g, e1, none⟩)) (fun wx ρ hwx h0 h1 hc => idx_i rfl he1n ρ wx h0 h1) ?_; refine lxR (.tmp 54) (.pointer (some ⟨g, e1, none⟩)) (iV q) (fun wx ρ hwx h0 hc => load_i rfl ρ (CQ.out wx hwx) h0) ?_
          refine wpL_val (.int .i64 z2) [iV p, iV q] (by kernel_rfl) (by kernel_rfl) rfl (by kernel_rfl) (by kernel_rfl) (by kernel_rfl) (by kernel_rfl) ENT.out (fun wx hwx => ASK2.out wx hwx) ?_
          refine lxR (.tmp 56) (.int .i64 z2) (.bool false) (fun wx ρ hwx h0 hc => lss_i rfl HT2.out ρ wx h0 (hc _)) ?_; refine lxR (.tmp 57) (.bool false) (.bool true) (fun wx ρ hwx h0 hc => not_b rfl rfl ρ wx h0) ?_
          refine wpL_end (by kernel_rfl) (fun w1 hw1 => ?_)
          simp only [FinL, setL, List.set_cons_zero, List.set_cons_succ]
          have H5 := Lib.hid (H4.out.later hw1)
          clear ASK2 CP CQ
          go_wp2
          refine bodyPost_ret (results_none rfl _ _ _) rfl ?_
          rw [HE2.out]
          exact ⟨rfl, H5.out⟩
set_option maxHeartbeats 4000000 in
theorem heap_any (K : Cmp f bs cb cf Ok B w0 Ts) (S : Sd Ok B w0 Ts g n c Rs w d) (a b : Nat) (hab : a < b) (hb : b ≤ n) (hn : n ≤ 100000) :
    Calls Tryz.prog 78 #[.slice (some ⟨g, 0, none⟩) n c, .int .i64 (a : Int), .int .i64 (b : Int), fvOf f bs cb] w fun e w' => e = .returned (.tuple #[]) ∧ Sd Ok B w0 Ts g n c Rs w' (Sort.heapSort (ltc cf) d a b) := by
  have HS := Lib.hid S
  obtain ⟨hi, hhi⟩ : ∃ h, h = b - a := ⟨_, rfl⟩
  have hhi2 : (b : Int) - (a : Int) = (hi : Int) := by omega
  obtain ⟨m, hm⟩ : ∃ m, m = (hi - 1) / 2 := ⟨_, rfl⟩
  have hm2 : ((hi : Int) - 1).tdiv 2 = (m : Int) := by rw [show (hi : Int) - 1 = ((hi - 1 : Nat) : Int) by omega, hm]; rfl
  have hmb : m ≤ 100000 := by omega
  have hh : a + hi ≤ n := by omega
  obtain ⟨R, hR⟩ : ∃ R, R = Sort.heapSort (ltc cf) d a b := ⟨_, rfl⟩
  obtain ⟨X, hX⟩ : ∃ X, X = Sort.heapBuild (ltc cf) hi a (m + 1) d := ⟨_, rfl⟩
  rw [← hR]
  have HX0 := Lib.hid hX.symm
  have HR0 : Hid (Sort.heapPop (ltc cf) a hi X = R) := by show _ = _; rw [hR, hX, hm, hhi]; rfl
  have KK := Lib.hid (fun (w : World) (d : Array Nat) (S : Sd Ok B w0 Ts g n c Rs w d) (lo hi first : Nat) (hlo : lo ≤ n) (hh : first + hi ≤ n) => sift_any K S lo hi first hlo hh hn)
  have hmh : m ≤ hi := by omega
  have hhi1 : 1 ≤ hi := by omega
  have hhib : hi ≤ 100000 := by omega
  clear S hR hX hm hhi K
  go_enter Tryz.func78, Tryz.ntmps78
  go_wp2
  go_loopw [11] (fun v11 wr => ∃ (k : Nat) (z : Int) (dk : Array Nat), v11 = .int .i64 z ∧ z = (k : Int) - 1 ∧ k ≤ m + 1 ∧ Sd Ok B w0 Ts g n c Rs wr dk ∧ Sort.heapBuild (ltc cf) hi a k dk = X) (fun v11 _ => (intOf v11 + 1).toNat)
  case atStart => exact ⟨m + 1, (m : Int), d, rfl, by omega, Nat.le_refl _, HS.out, HX0.out⟩
  case round =>
    obtain ⟨k, z, dk, rfl, hz, hkm, hs, heq⟩ := hrel
    have HK := Lib.hid hs
    have HE := Lib.hid heq
    clear hs heq HS HX0
    cases k with
    | succ k =>
      obtain rfl : z = (k : Int) := by omega
      have HE2 : Hid (Sort.heapBuild (ltc cf) hi a k (Sort.siftDown (ltc cf) hi a k dk) = X) := HE.out
      obtain ⟨d2, hd2⟩ : ∃ d2, d2 = Sort.siftDown (ltc cf) hi a k dk := ⟨_, rfl⟩
      rw [← hd2] at HE2
      have CC := Lib.hid (KK.out _ _ HK.out k hi a (by omega) hh)
      rw [← hd2] at CC
      clear hz HE hd2
      have hk0 : (0 : Int) ≤ (k : Int) := by omega
      go_wp2_with (fail)
      refine CC.out.mono ?_
      clear CC
      rintro e w1 ⟨rfl, h⟩
      have H1 := Lib.hid h
      clear h
      go_wp2
      go_roundw
      case rel => exact ⟨k, (k : Int) - 1, d2, (by first | rfl | go_num), rfl, by omega, H1.out, HE2.out⟩
      case measure => simp [intOf] <;> omega
    | zero =>
      obtain rfl : z = -1 := by omega
      have HE2 : Hid (dk = X) := HE.out
      clear hz HE
      go_wp2
      go_loopw [12] (fun v12 wr => ∃ (k : Nat) (z : Int) (dk : Array Nat), v12 = .int .i64 z ∧ z = (k : Int) - 1 ∧ k ≤ hi ∧ Sd Ok B w0 Ts g n c Rs wr dk ∧ Sort.heapPop (ltc cf) a k dk = R) (fun v12 _ => (intOf v12 + 1).toNat)
      case atStart => exact ⟨hi, (hi : Int) - 1, dk, (by first | rfl | go_num), rfl, Nat.le_refl _, HK.out, by rw [HE2.out]; exact HR0.out⟩
      case round =>
        obtain ⟨k, z, dk, rfl, hz, hkm, hs, heq⟩ := hrel
        have HK := Lib.hid hs
        have HE := Lib.hid heq
        clear hs heq HR0 HE2
        cases k with
        | succ k =>
          obtain rfl : z = (k : Int) := by omega
          obtain ⟨e1, he1⟩ : ∃ e, e = a + k := ⟨_, rfl⟩
          have he1n : e1 < n := by omega
          have han : a < n := by omega
          obtain ⟨d2, hd2⟩ : ∃ d2, d2 = Sort.siftDown (ltc cf) k a 0 (Sort.swp dk a e1) := ⟨_, rfl⟩
          have HE2 : Hid (Sort.heapPop (ltc cf) a k d2 = R) := by show _ = _; rw [hd2, he1]; exact HE.out
          have hs2 : IntKind.i64.wrap ((a : Int) + (k : Int)) = (e1 : Int) := by rw [IntKind.wrap_i64]; omega
          obtain ⟨xi, hxi⟩ : ∃ x, x = dk[a]! := ⟨_, rfl⟩
          obtain ⟨xj, hxj⟩ : ∃ x, x = dk[e1]! := ⟨_, rfl⟩
          have H2 := Lib.hid (HK.out.swap han he1n).drew
          have k1 := HK.out.cell han
          have k2 := HK.out.cell he1n
          have f1 := HK.out.froz han
          have f2 := HK.out.froz he1n
          obtain ⟨u, k3⟩ := HK.out.swap2 han he1n
          rw [← hxi, ← hxj] at H2
          rw [← hxi] at k1
          rw [← hxj] at k2 k3
          clear hxi hxj
          have CC := Lib.hid (KK.out _ _ H2.out 0 k a (by omega) (by omega))
          rw [← hd2] at CC
          clear hz HE hd2 he1
          have hk0 : (0 : Int) ≤ (k : Int) := by omega
          go_wp2_with (fail)
          go_region
          go_wp2_with (fail)
          refine CC.out.mono ?_
          clear CC
          rintro e w1 ⟨rfl, h⟩
          have H1 := Lib.hid h
          clear h k1 k2 k3 f1 f2 hs2
          go_wp2
          go_roundw
          case rel => exact ⟨k, (k : Int) - 1, d2, (by first | rfl | go_num), rfl, by omega, H1.out, HE2.out⟩
          case measure => simp [intOf] <;> omega
        | zero =>
          obtain rfl : z = -1 := by omega
          have HE3 : Hid (dk = R) := HE.out
          clear hz HE
          go_wp2
          go_end0
          rw [← HE3.out]
          exact ⟨rfl, HK.out⟩
end
end Srt
end Go.Proofs.YtmdphcebmgcdbaaGreat
end
section
namespace Go.Proofs.YtmdphcebmgcdbaaGreat
open Go.RowKit Go.Own
namespace Srt
abbrev cntA (bx s : Nat) : Asn := AVals bx 3 [iV s]
section
variable {f : FuncId} {bs cb : Array Value} {cf : Nat → Nat → Int} {Ok : Nat → Prop} {B : Nat} {w0 w : World} {Ts Rs : List Asn} {g n c bx s : Nat} {d : Array Nat}
theorem Sd.cnt (S : Sd Ok B w0 Ts g n c (cntA bx s :: Rs) w d) : w.cell? ⟨bx, 0, none⟩ = some (iV s) ∧ w.frozen? ⟨bx, 0, none⟩ = false := S.st.cellV 1 rfl 0 rfl
theorem Sd.bump (S : Sd Ok B w0 Ts g n c (cntA bx s :: Rs) w d) (s' : Nat) : Sd Ok B w0 Ts g n c (cntA bx s' :: Rs) (w.setCell ⟨bx, 0, none⟩ (iV s')) d :=
  ⟨S.st.storeV 1 rfl 0 (iV s'), S.size, S.ok⟩
theorem order2_t {lt : Nat → Nat → Bool} {a b : Nat} (h : lt d[b]! d[a]! = true) : Sort.order2 lt d a b s = (b, a, s + 1) := by unfold Sort.order2; rw [if_pos h]
theorem order2_f {lt : Nat → Nat → Bool} {a b : Nat} (h : ¬ lt d[b]! d[a]! = true) : Sort.order2 lt d a b s = (a, b, s) := by unfold Sort.order2; rw [if_neg h]
set_option maxHeartbeats 4000000 in
theorem order2_any (K : Cmp f bs cb cf Ok B w0 Ts) (S : Sd Ok B w0 Ts g n c (cntA bx s :: Rs) w d) (a b : Nat) (ha : a < n) (hb : b < n) (hs : s ≤ 1000) :
    Calls Tryz.prog 109 #[.slice (some ⟨g, 0, none⟩) n c, .int .i64 (a : Int), .int .i64 (b : Int), .pointer (some ⟨bx, 0, none⟩), fvOf f bs cb] w fun e w' =>
      e = .returned (.tuple #[iV (Sort.order2 (ltc cf) d a b s).1, iV (Sort.order2 (ltc cf) d a b s).2.1]) ∧ Sd Ok B w0 Ts g n c (cntA bx (Sort.order2 (ltc cf) d a b s).2.2 :: Rs) w' d := by
  have HS := Lib.hid S
  have ENT := Lib.hid K.ent
  obtain ⟨x, hx⟩ : ∃ x, x = d[b]! := ⟨_, rfl⟩
  obtain ⟨y, hy⟩ : ∃ y, y = d[a]! := ⟨_, rfl⟩
  obtain ⟨z, hz⟩ : ∃ z, z = cf x y := ⟨_, rfl⟩
  have ASK := Lib.hid (ask_at K HS.out hb ha)
  have CX := Lib.hid (cell_at HS.out hb)
  have CY := Lib.hid (cell_at HS.out ha)
  rw [← hx, ← hy, ← hz] at ASK
  rw [← hx] at CX
  rw [← hy] at CY
  by_cases hlt : ltc cf x y = true
  · have HT := Lib.hid (ltc_t hlt hz)
    have HE := Lib.hid (order2_t (s := s) (by rw [← hx, ← hy]; exact hlt) : Sort.order2 (ltc cf) d a b s = (b, a, s + 1))
    rw [HE.out]
    clear hlt hz hx hy S
    go_enter Tryz.func109, Tryz.ntmps109
    go_wp2_with (fail)
    refine lxX ?_; refine lxM (fvOf f bs cb) rfl ?_; refine lxM (.slice (some ⟨g, 0, none⟩) n c) rfl ?_; refine lxM (.int .i64 (b : Int)) rfl ?_; refine lxT (.tmp 13) (.tmp 14) (.slice (some ⟨g, 0, none⟩) n c) (.int .i64 (b : Int)) (.pointer (some ⟨g, b, none⟩)) (fun wx ρ hwx h0 h1 hc => idx_i rfl hb ρ wx h0 h1) ?_; refine lxR (.tmp 15) (.pointer (some ⟨g, b, none⟩)) (iV x) (fun wx ρ hwx h0 hc => load_i rfl ρ (CX.out wx hwx) h0) ?_; refine lxM (.slice (some ⟨g, 0, none⟩) n c) rfl ?_; refine lxM (.int .i64 (a : Int)) rfl ?_; refine lxT (.tmp 17) (.tmp 18) (.slice (some ⟨g, 0, none⟩) n c) (.int .i64 (a : Int)) (.pointer (some ⟨g, a, none⟩)) (fun wx ρ hwx h0 h1 hc => idx_i rfl ha ρ wx h0 h1) ?_; refine lxR (.tmp 19) (.pointer (some ⟨g, a, none⟩)) (iV y) (fun wx ρ hwx h0 hc => load_i rfl ρ (CY.out wx hwx) h0) ?_
    refine wpL_val (.int .i64 z) [iV x, iV y] (by kernel_rfl) (by kernel_rfl) rfl (by kernel_rfl) (by kernel_rfl) (by kernel_rfl) (by kernel_rfl) ENT.out (fun wx hwx => ASK.out wx hwx) ?_
    refine lxR (.tmp 21) (.int .i64 z) (.bool true) (fun wx ρ hwx h0 hc => lss_i rfl HT.out ρ wx h0 (hc _)) ?_
    refine wpL_end (by kernel_rfl) (fun w1 hw1 => ?_)
    simp only [FinL, setL, List.set_cons_zero, List.set_cons_succ]
    have S1 := Lib.hid (HS.out.later hw1)
    obtain ⟨k1, k2⟩ := S1.out.cnt
    have S2 := Lib.hid (S1.out.bump (s + 1))
    clear ASK CX CY
    go_wp2
    go_ret2
    exact ⟨rfl, S2.out⟩
  · have hlf : ltc cf x y = false := by simpa using hlt
    have HT := Lib.hid (ltc_t hlf hz)
    have HE := Lib.hid (order2_f (s := s) (by rw [← hx, ← hy]; exact hlt) : Sort.order2 (ltc cf) d a b s = (a, b, s))
    rw [HE.out]
    clear hlt hlf hz hx hy S
    go_enter Tryz.func109, Tryz.ntmps109
    go_wp2_with (fail)
    refine lxX ?_; refine lxM (fvOf f bs cb) rfl ?_; refine lxM (.slice (some ⟨g, 0, none⟩) n c) rfl ?_; refine lxM (.int .i64 (b : Int)) rfl ?_; refine lxT (.tmp 13) (.tmp 14) (.slice (some ⟨g, 0, none⟩) n c) (.int .i64 (b : Int)) (.pointer (some ⟨g, b, none⟩)) (fun wx ρ hwx h0 h1 hc => idx_i rfl hb ρ wx h0 h1) ?_; refine lxR (.tmp 15) (.pointer (some ⟨g, b, none⟩)) (iV x) (fun wx ρ hwx h0 hc => load_i rfl ρ (CX.out wx hwx) h0) ?_; refine lxM (.slice (some ⟨g, 0, none⟩) n c) rfl ?_; refine lxM (.int .i64 (a : Int)) rfl ?_; refine lxT (.tmp 17) (.tmp 18) (.slice (some ⟨g, 0, none⟩) n c) (.int .i64 (a : Int)) (.pointer (some ⟨g, a, none⟩)) (fun wx ρ hwx h0 h1 hc => idx_i rfl ha ρ wx h0 h1) ?_; refine lxR (.tmp 19) (.pointer (some ⟨g, a, none⟩)) (iV y) (fun wx ρ hwx h0 hc => load_i rfl ρ (CY.out wx hwx) h0) ?_
    refine wpL_val (.int .i64 z) [iV x, iV y] (by kernel_rfl) (by kernel_rfl) rfl (by kernel_rfl) (by kernel_rfl) (by kernel_rfl) (by kernel_rfl) ENT.out (fun wx hwx => ASK.out wx hwx) ?_
    refine lxR (.tmp 21) (.int .i64 z) (.bool false) (fun wx ρ hwx h0 hc => lss_i rfl HT.out ρ wx h0 (hc _)) ?_
    refine wpL_end (by kernel_rfl) (fun w1 hw1 => ?_)
    simp only [FinL, setL, List.set_cons_zero, List.set_cons_succ]
    have S1 := Lib.hid (HS.out.later hw1)
    clear ASK CX CY
    go_wp2
    go_ret2
    exact ⟨rfl, S1.out⟩
theorem order2_in {lt : Nat → Nat → Bool} {a b : Nat} (ha : a < n) (hb : b < n) : (Sort.order2 lt d a b s).1 < n ∧ (Sort.order2 lt d a b s).2.1 < n := by
  rcases Sort.order2_mem lt d a b s with ⟨h1, h2⟩ | ⟨h1, h2⟩ <;> rw [h1, h2] <;> exact ⟨by omega, by omega⟩
set_option maxHeartbeats 4000000 in
theorem median_any (K : Cmp f bs cb cf Ok B w0 Ts) (S : Sd Ok B w0 Ts g n c (cntA bx s :: Rs) w d) (a b e : Nat) (ha : a < n) (hb : b < n) (he : e < n) (hs : s ≤ 900) :
    Calls Tryz.prog 105 #[.slice (some ⟨g, 0, none⟩) n c, .int .i64 (a : Int), .int .i64 (b : Int), .int .i64 (e : Int), .pointer (some ⟨bx, 0, none⟩), fvOf f bs cb] w fun r w' =>
      r = .returned (iV (Sort.median (ltc cf) d a b e s).1) ∧ Sd Ok B w0 Ts g n c (cntA bx (Sort.median (ltc cf) d a b e s).2 :: Rs) w' d := by
  have KK := Lib.hid (fun (w : World) (s : Nat) (S : Sd Ok B w0 Ts g n c (cntA bx s :: Rs) w d) (a b : Nat) (ha : a < n) (hb : b < n) (hs : s ≤ 1000) => order2_any K S a b ha hb hs)
  have C1 := Lib.hid (KK.out _ _ S a b ha hb (by omega))
  obtain ⟨⟨x1, y1, s1⟩, h1⟩ : ∃ r, r = Sort.order2 (ltc cf) d a b s := ⟨_, rfl⟩
  have i1 := order2_in (lt := ltc cf) (d := d) (s := s) ha hb
  have t1 := Sort.order2_count (ltc cf) d a b s
  rw [← h1] at C1 i1 t1
  obtain ⟨⟨x2, y2, s2⟩, h2⟩ : ∃ r, r = Sort.order2 (ltc cf) d y1 e s1 := ⟨_, rfl⟩
  have i2 := order2_in (lt := ltc cf) (d := d) (s := s1) i1.2 he
  have t2 := Sort.order2_count (ltc cf) d y1 e s1
  rw [← h2] at i2 t2
  obtain ⟨⟨x3, y3, s3⟩, h3⟩ : ∃ r, r = Sort.order2 (ltc cf) d x1 x2 s2 := ⟨_, rfl⟩
  have HM : Hid (Sort.median (ltc cf) d a b e s = (y3, s3)) := by
    show _ = _
    unfold Sort.median
    simp only
    rw [← h1, ← h2, ← h3]
  simp only at i1 i2 t1 t2
  obtain ⟨ix1, iy1⟩ := i1
  obtain ⟨ix2, iy2⟩ := i2
  rw [HM.out]
  have H2 := Lib.hid h2
  have H3 := Lib.hid h3
  have hs1 : s1 ≤ 1000 := by omega
  have hs2 : s2 ≤ 1000 := by omega
  clear h1 h2 h3 S K t1 t2
  go_enter Tryz.func105, Tryz.ntmps105
  go_wp2_with (fail)
  refine C1.out.mono ?_
  clear C1
  rintro e1 w1 ⟨rfl, h⟩
  have C2 := Lib.hid (KK.out _ _ h y1 e iy1 he hs1)
  rw [← H2.out] at C2
  clear h
  go_wp2_with (fail)
  refine C2.out.mono ?_
  clear C2
  rintro e2 w2 ⟨rfl, h⟩
  have C3 := Lib.hid (KK.out _ _ h x1 x2 ix1 ix2 hs2)
  rw [← H3.out] at C3
  clear h
  go_wp2_with (fail)
  refine C3.out.mono ?_
  clear C3
  rintro e3 w3 ⟨rfl, h⟩
  have H9 := Lib.hid h
  clear h
  go_wp2
  go_ret
  exact ⟨rfl, H9.out⟩
set_option maxHeartbeats 4000000 in
theorem medianAdj_any (K : Cmp f bs cb cf Ok B w0 Ts) (S : Sd Ok B w0 Ts g n c (cntA bx s :: Rs) w d) (a : Nat) (ha : 1 ≤ a) (hb : a + 1 < n) (hn : n ≤ 100000) (hs : s ≤ 900) :
    Calls Tryz.prog 104 #[.slice (some ⟨g, 0, none⟩) n c, .int .i64 (a : Int), .pointer (some ⟨bx, 0, none⟩), fvOf f bs cb] w fun r w' =>
      r = .returned (iV (Sort.medianAdjacent (ltc cf) d a s).1) ∧ Sd Ok B w0 Ts g n c (cntA bx (Sort.medianAdjacent (ltc cf) d a s).2 :: Rs) w' d := by
  have C1 := Lib.hid (median_any K S (a - 1) a (a + 1) (by omega) (by omega) hb hs)
  obtain ⟨⟨r, s2⟩, hr⟩ : ∃ r, r = Sort.medianAdjacent (ltc cf) d a s := ⟨_, rfl⟩
  have hr2 : (r, s2) = Sort.median (ltc cf) d (a - 1) a (a + 1) s := hr
  rw [← hr2] at C1
  rw [← hr]
  obtain ⟨p, hp⟩ : ∃ p, a = p + 1 := ⟨a - 1, by omega⟩
  have e0 : a - 1 = p := by omega
  rw [e0] at C1
  obtain ⟨q, hq⟩ : ∃ q, q = a + 1 := ⟨_, rfl⟩
  rw [← hq] at C1
  have s1 : (a : Int) - 1 = (p : Int) := by omega
  have s2' : (a : Int) + 1 = (q : Int) := by omega
  clear S K hr hr2 hp e0 hq
  go_enter Tryz.func104, Tryz.ntmps104
  go_wp2_with (fail)
  refine C1.out.mono ?_
  clear C1
  rintro e1 w1 ⟨rfl, h⟩
  have H9 := Lib.hid h
  clear h
  go_wp2
  go_ret
  exact ⟨rfl, H9.out⟩
def hintV : Sort.Hint → Value
  | .unknown => .int .i64 0
  | .increasing => .int .i64 1
  | .decreasing => .int .i64 2
theorem Sd.boxC (S : Sd Ok B w0 Ts g n c Rs w d) : Sd Ok B w0 Ts g n c (cntA w.heap.size 0 :: Rs) (w.alloc (.cells #[iV 0] 3)) d :=
  ⟨(S.st.boxV 3 [iV 0]).swap2, S.size, S.ok⟩
theorem Sd.dropC (S : Sd Ok B w0 Ts g n c (cntA bx s :: Rs) w d) : Sd Ok B w0 Ts g n c Rs w d := ⟨S.st.drop2, S.size, S.ok⟩
set_option maxRecDepth 4000 in
set_option maxHeartbeats 8000000 in
theorem choose_any (K : Cmp f bs cb cf Ok B w0 Ts) (S : Sd Ok B w0 Ts g n c Rs w d) (a b : Nat) (hab : a + 12 < b) (hb : b ≤ n) (hn : n ≤ 100000) :
    Calls Tryz.prog 80 #[.slice (some ⟨g, 0, none⟩) n c, .int .i64 (a : Int), .int .i64 (b : Int), fvOf f bs cb] w fun r w' =>
      r = .returned (.tuple #[iV (Sort.choosePivot (ltc cf) d a b).1, hintV (Sort.choosePivot (ltc cf) d a b).2]) ∧ Sd Ok B w0 Ts g n c Rs w' d := by
  have KM := Lib.hid (fun (w : World) (bx s : Nat) (S : Sd Ok B w0 Ts g n c (cntA bx s :: Rs) w d) (a b e : Nat) (ha : a < n) (hb : b < n) (he : e < n) (hs : s ≤ 900) => median_any K S a b e ha hb he hs)
  have KA := Lib.hid (fun (w : World) (bx s : Nat) (S : Sd Ok B w0 Ts g n c (cntA bx s :: Rs) w d) (a : Nat) (ha : 1 ≤ a) (hb : a + 1 < n) (hs : s ≤ 900) => medianAdj_any K S a ha hb hn hs)
  obtain ⟨l, hl⟩ : ∃ l, l = b - a := ⟨_, rfl⟩
  obtain ⟨q, hq⟩ : ∃ q, q = l / 4 := ⟨_, rfl⟩
  obtain ⟨i, hi⟩ : ∃ i, i = a + q * 1 := ⟨_, rfl⟩
  obtain ⟨j, hj⟩ : ∃ j, j = a + q * 2 := ⟨_, rfl⟩
  obtain ⟨k, hk⟩ : ∃ k, k = a + q * 3 := ⟨_, rfl⟩
  have hl2 : (b : Int) - (a : Int) = (l : Int) := by omega
  have hq2 : (l : Int).tdiv 4 = (q : Int) := by rw [hq]; rfl
  have hi2 : (a : Int) + (q : Int) = (i : Int) := by omega
  have hj2 : (a : Int) + (q : Int) * 2 = (j : Int) := by omega
  have hk2 : (a : Int) + (q : Int) * 3 = (k : Int) := by omega
  have hqb : q ≤ 100000 := by omega
  have hlb : l ≤ 100000 := by omega
  have hib : 1 ≤ i ∧ i + 1 < n := by omega
  have hjb : 1 ≤ j ∧ j + 1 < n := by omega
  have hkb : 1 ≤ k ∧ k + 1 < n := by omega
  have hl8 : (8 : Int) ≤ (l : Int) := by omega
  have h0 := Lib.hid S.boxC
  have HCP : Hid (Sort.choosePivot (ltc cf) d a b = (let r : Nat × Nat := if l ≥ 50 then Sort.median (ltc cf) d (Sort.medianAdjacent (ltc cf) d i 0).1 (Sort.medianAdjacent (ltc cf) d j (Sort.medianAdjacent (ltc cf) d i 0).2).1 (Sort.medianAdjacent (ltc cf) d k (Sort.medianAdjacent (ltc cf) d j (Sort.medianAdjacent (ltc cf) d i 0).2).2).1 (Sort.medianAdjacent (ltc cf) d k (Sort.medianAdjacent (ltc cf) d j (Sort.medianAdjacent (ltc cf) d i 0).2).2).2 else Sort.median (ltc cf) d i j k 0; (r.1, if r.2 = 0 then .increasing else if r.2 = 12 then .decreasing else .unknown))) := by
    show _ = _
    unfold Sort.choosePivot
    simp only
    rw [← hl, ← hq, ← hi, ← hj, ← hk, if_pos (by omega : l ≥ 8)]
  rw [HCP.out]
  have hanM : ∀ (d : Array Nat) (a b e s : Nat), a < n → b < n → e < n → (Sort.median (ltc cf) d a b e s).1 < n := by
    intro d a b e s ha hb he
    rcases Sort.median_mem (ltc cf) d a b e s with h | h | h <;> rw [h] <;> assumption
  have hanA : ∀ (d : Array Nat) (a s : Nat), 1 ≤ a → a + 1 < n → (Sort.medianAdjacent (ltc cf) d a s).1 < n := by
    intro d a s h1 h2
    rcases Sort.medianAdjacent_mem (ltc cf) d a s with h | h | h <;> rw [h] <;> omega
  obtain ⟨hi1, hin⟩ := hib
  obtain ⟨hj1, hjn⟩ := hjb
  obtain ⟨hk1, hkn⟩ := hkb
  by_cases h50 : 50 ≤ l
  · rw [if_pos h50]
    have h50' : (50 : Int) ≤ (l : Int) := by omega
    obtain ⟨⟨ri, si⟩, e1⟩ : ∃ r, r = Sort.medianAdjacent (ltc cf) d i 0 := ⟨_, rfl⟩
    have b1 := hanA d i 0 hi1 hin
    have t1 := Sort.medianAdjacent_count (ltc cf) d i 0
    rw [← e1] at b1 t1 ⊢
    obtain ⟨⟨rj, sj⟩, e2⟩ : ∃ r, r = Sort.medianAdjacent (ltc cf) d j si := ⟨_, rfl⟩
    have b2 := hanA d j si hj1 hjn
    have t2 := Sort.medianAdjacent_count (ltc cf) d j si
    simp only at b1 t1 ⊢
    rw [← e2] at b2 t2 ⊢
    obtain ⟨⟨rk, sk⟩, e3⟩ : ∃ r, r = Sort.medianAdjacent (ltc cf) d k sj := ⟨_, rfl⟩
    have b3 := hanA d k sj hk1 hkn
    have t3 := Sort.medianAdjacent_count (ltc cf) d k sj
    simp only at b2 t2 ⊢
    rw [← e3] at b3 t3 ⊢
    obtain ⟨⟨rm, sm⟩, e4⟩ : ∃ r, r = Sort.median (ltc cf) d ri rj rk sk := ⟨_, rfl⟩
    have t4 := Sort.median_count (ltc cf) d ri rj rk sk
    simp only at b3 t3 ⊢
    rw [← e4] at t4 ⊢
    simp only at t4 ⊢
    have E1 := Lib.hid e1
    have E2 := Lib.hid e2
    have E3 := Lib.hid e3
    have E4 := Lib.hid e4
    have hsi : si ≤ 900 := by omega
    have hsj : sj ≤ 900 := by omega
    have hsk : sk ≤ 900 := by omega
    have hsm : sm ≤ 12 := by omega
    clear e1 e2 e3 e4 t1 t2 t3 t4 HCP S K hq hl hi hj hk hanM hanA
    go_enter Tryz.func80, Tryz.ntmps80
    go_wp2_with (fail)
    have C1 := Lib.hid (KA.out _ _ _ h0.out i hi1 hin (by omega))
    rw [← E1.out] at C1
    refine C1.out.mono ?_
    clear C1
    rintro e1 w1 ⟨rfl, h⟩
    have C2 := Lib.hid (KA.out _ _ _ h j hj1 hjn hsi)
    rw [← E2.out] at C2
    clear h h0
    go_wp2_with (fail)
    refine C2.out.mono ?_
    clear C2
    rintro e2 w2 ⟨rfl, h⟩
    have C3 := Lib.hid (KA.out _ _ _ h k hk1 hkn hsj)
    rw [← E3.out] at C3
    clear h
    go_wp2_with (fail)
    refine C3.out.mono ?_
    clear C3
    rintro e3 w3 ⟨rfl, h⟩
    have C4 := Lib.hid (KM.out _ _ _ h ri rj rk b1 b2 b3 hsk)
    rw [← E4.out] at C4
    clear h
    go_wp2_with (fail)
    refine C4.out.mono ?_
    clear C4
    rintro e4 w4 ⟨rfl, h⟩
    have cc := h.cnt.1
    have H9 := Lib.hid h.dropC
    clear h
    by_cases z0 : sm = 0
    · subst z0
      go_wp2
      go_ret2
      exact ⟨rfl, H9.out⟩
    · have d0 : ((sm : Int) == 0) = false := by simp; omega
      have Z0 := Lib.hid z0
      by_cases z1 : sm = 12
      · subst z1
        clear z0
        go_wp2
        go_ret2
        exact ⟨rfl, H9.out⟩
      · have d1 : ((sm : Int) == 12) = false := by simp; omega
        have Z1 := Lib.hid z1
        clear z0 z1
        go_wp2
        go_ret2
        exact ⟨rfl, H9.out⟩
  · rw [if_neg h50]
    have h50' : ¬ (50 : Int) ≤ (l : Int) := by omega
    obtain ⟨⟨rm, sm⟩, e4⟩ : ∃ r, r = Sort.median (ltc cf) d i j k 0 := ⟨_, rfl⟩
    have t4 := Sort.median_count (ltc cf) d i j k 0
    rw [← e4] at t4 ⊢
    simp only at t4 ⊢
    have E4 := Lib.hid e4
    have hsm : sm ≤ 12 := by omega
    clear e4 t4 HCP S K hq hl hi hj hk hanM hanA KA
    go_enter Tryz.func80, Tryz.ntmps80
    go_wp2_with (fail)
    have C4 := Lib.hid (KM.out _ _ _ h0.out i j k (by omega) (by omega) (by omega) (by omega))
    rw [← E4.out] at C4
    refine C4.out.mono ?_
    clear C4
    rintro e4 w4 ⟨rfl, h⟩
    have cc := h.cnt.1
    have H9 := Lib.hid h.dropC
    clear h h0
    by_cases z0 : sm = 0
    · subst z0
      go_wp2
      go_ret2
      exact ⟨rfl, H9.out⟩
    · have d0 : ((sm : Int) == 0) = false := by simp; omega
      have Z0 := Lib.hid z0
      by_cases z1 : sm = 12
      · subst z1
        clear z0
        go_wp2
        go_ret2
        exact ⟨rfl, H9.out⟩
      · have d1 : ((sm : Int) == 12) = false := by simp; omega
        have Z1 := Lib.hid z1
        clear z0 z1
        go_wp2
        go_ret2
        exact ⟨rfl, H9.out⟩
end
end Srt
end Go.Proofs.YtmdphcebmgcdbaaGreat
end
section
namespace Go.Proofs.YtmdphcebmgcdbaaGreat
open Go.RowKit Go.Own
namespace Srt
theorem geq_q {o : Oper} {X Y : Operand} (ho : o.op = .binOp .geq 32 X Y 32) {a b : Int} {t : Bool} (ht : decide (b ≤ a) = t) (ρ : Operand → Value) (w : World) (h0 : ρ X = .int .u64 a) (h1 : ρ Y = .int .u64 b) : (execOp ρ o).run Tryz.prog w = .ok (.value (.bool t)) w := by
  subst ht
  simp [execOp, ho, h0, h1, go_sem]
set_option maxRecDepth 100000 in
set_option maxHeartbeats 4000000 in
theorem len64_any (n : Nat) (hn : n ≤ 100000) (w : World) : Calls Tryz.prog 86 #[.int .u64 (n : Int)] w fun e w' => e = .returned (.int .i64 (Lib.bitLen n : Nat)) ∧ w' = w := by
  have G1 : Hid (decide ((4294967296 : Int) ≤ (n : Int)) = false) := decide_eq_false (by omega)
  by_cases h1 : n < 256
  · have G2 : Hid (decide ((65536 : Int) ≤ (n : Int)) = false) := decide_eq_false (by omega)
    have G3 : Hid (decide ((256 : Int) ≤ (n : Int)) = false) := decide_eq_false (by omega)
    have H1 := Lib.hid h1
    clear h1 hn
    go_enter Tryz.func86, Tryz.ntmps86
    go_wp2_with (first
      | (refine Byt.wpList_val rfl (geq_q (X := .tmp 3) rfl G1.out _ _ rfl rfl) ?_)
      | (refine Byt.wpList_val rfl (geq_q (X := .tmp 7) rfl G2.out _ _ rfl rfl) ?_)
      | (refine Byt.wpList_val rfl (geq_q (X := .tmp 13) rfl G3.out _ _ rfl rfl) ?_))
    go_ret
    refine ⟨congrArg Ending.returned (congrArg (Value.int IntKind.i64) ?_), rfl⟩
    have h1 := H1.out
    rw [Lib.len8_of ((n : Int) % 256) (by omega) (by omega)]
    have l := Lib.bitLen_le8' ((n : Int) % 256) (by omega) (by omega)
    have e : ((n : Int) % 256).toNat = n := by omega
    rw [e] at l ⊢
    obtain ⟨z, hz⟩ : ∃ z, z = Lib.bitLen n := ⟨_, rfl⟩
    rw [← hz] at l ⊢
    clear hz e
    first | omega | go_num | (unfold wrap64; omega)
  · by_cases h2 : n < 65536
    · have G2 : Hid (decide ((65536 : Int) ≤ (n : Int)) = false) := decide_eq_false (by omega)
      have G3 : Hid (decide ((256 : Int) ≤ (n : Int)) = true) := decide_eq_true (by omega)
      have H1 := Lib.hid h1
      have H2 := Lib.hid h2
      clear h1 hn h2
      go_enter Tryz.func86, Tryz.ntmps86
      go_wp2_with (first
        | (refine Byt.wpList_val rfl (geq_q (X := .tmp 3) rfl G1.out _ _ rfl rfl) ?_)
        | (refine Byt.wpList_val rfl (geq_q (X := .tmp 7) rfl G2.out _ _ rfl rfl) ?_)
        | (refine Byt.wpList_val rfl (geq_q (X := .tmp 13) rfl G3.out _ _ rfl rfl) ?_))
      go_ret
      refine ⟨congrArg Ending.returned (congrArg (Value.int IntKind.i64) ?_), rfl⟩
      have h1 := H1.out
      have h2 := H2.out
      rw [Lib.len8_of ((n : Int) / 256 % 256) (by omega) (by omega)]
      have l := Lib.bitLen_le8' ((n : Int) / 256 % 256) (by omega) (by omega)
      have s := Lib.bitLen_shift8 n (by omega) (by omega)
      have e : ((n : Int) / 256 % 256).toNat = n / 256 := by omega
      rw [e] at l ⊢
      rw [s]
      obtain ⟨z, hz⟩ : ∃ z, z = Lib.bitLen (n / 256) := ⟨_, rfl⟩
      rw [← hz] at l ⊢
      clear hz e s
      first | omega | go_num | (unfold wrap64; omega)
    · have g2 : (65536 : Int) ≤ (n : Int) := by omega
      have g1 : ¬ (4294967296 : Int) ≤ (n : Int) := by omega
      have g4 : (n : Int) / 65536 = 1 := by omega
      have H2 := Lib.hid h2
      have HN := Lib.hid hn
      go_enter Tryz.func86, Tryz.ntmps86
      go_wp2
      go_ret
      refine ⟨congrArg Ending.returned (congrArg (Value.int IntKind.i64) ?_), rfl⟩
      have s := Lib.bitLen_shift16 n (by omega) (by omega)
      have e : n / 65536 = 1 := by have := HN.out; omega
      rw [e] at s
      rw [s, Lib.len8_of 1 (by omega) (by omega)]
      have l : Lib.bitLen 1 ≤ 8 := Lib.bitLen_le8' 1 (by omega) (by omega)
      have e2 : Int.toNat 1 = 1 := rfl
      rw [e2]
      obtain ⟨z, hz⟩ : ∃ z, z = Lib.bitLen 1 := ⟨_, rfl⟩
      rw [← hz] at l ⊢
      clear hz s e e2
      first | omega | go_num | (unfold wrap64; omega)
set_option maxHeartbeats 4000000 in
theorem next_any (rb X : Nat) (hX : X < 18446744073709551616) (w : World) (hc : w.cell? ⟨rb, 0, none⟩ = some (.int .u64 (X : Int))) (hf : w.frozen? ⟨rb, 0, none⟩ = false) :
    Calls Tryz.prog 103 #[.pointer (some ⟨rb, 0, none⟩)] w fun e w' => e = .returned (.int .u64 (Sort.xorNextN X : Nat)) ∧ w' = (w.setCell ⟨rb, 0, none⟩ (.int .u64 (Sort.xorNextN X : Nat))).drewN 3 := by
  obtain ⟨a, ha⟩ : ∃ a : Nat, a = X ^^^ (X * 8192 % 18446744073709551616) := ⟨_, rfl⟩
  obtain ⟨b, hb⟩ : ∃ b : Nat, b = a ^^^ (a / 128) := ⟨_, rfl⟩
  obtain ⟨c, hcc⟩ : ∃ c : Nat, c = b ^^^ (b * 131072 % 18446744073709551616) := ⟨_, rfl⟩
  have la : a < 18446744073709551616 := by rw [ha]; exact Nat.xor_lt_two_pow (n := 64) (by omega) (by omega)
  have lb : b < 18446744073709551616 := by rw [hb]; exact Nat.xor_lt_two_pow (n := 64) (by omega) (by omega)
  have x1 : bits .xor .u64 (X : Int) (IntKind.u64.wrap ((X : Int) * 8192)) = (a : Int) := by
    have e : IntKind.u64.wrap ((X : Int) * 8192) = ((X * 8192 % 18446744073709551616 : Nat) : Int) := by rw [IntKind.wrap_u64]; omega
    rw [e, bits_xor_u64_nat _ _ hX (by omega), ha]
  have x2 : bits .xor .u64 (a : Int) ((a : Int) / 128) = (b : Int) := by
    have e : ((a : Int) / 128) = ((a / 128 : Nat) : Int) := by omega
    rw [e, bits_xor_u64_nat _ _ la (by omega), hb]
  have x3 : bits .xor .u64 (b : Int) (IntKind.u64.wrap ((b : Int) * 131072)) = (c : Int) := by
    have e : IntKind.u64.wrap ((b : Int) * 131072) = ((b * 131072 % 18446744073709551616 : Nat) : Int) := by rw [IntKind.wrap_u64]; omega
    rw [e, bits_xor_u64_nat _ _ lb (by omega), hcc]
  have hv : Sort.xorNextN X = c := by unfold Sort.xorNextN; simp only []; rw [← ha, ← hb, ← hcc]
  rw [hv]
  clear ha hb hcc hv
  have hs : ∀ v v', (w.setCell ⟨rb, 0, none⟩ v).setCell ⟨rb, 0, none⟩ v' = w.setCell ⟨rb, 0, none⟩ v' := setCell_setCell w rb 0
  go_enter Tryz.func103, Tryz.ntmps103
  go_wp2
  go_region
  all_goals go_wp2
  all_goals go_region
  all_goals go_wp2
  all_goals go_region
  all_goals go_wp2
  go_ret
  exact ⟨rfl, rfl⟩
theorem len_any (n : Nat) (hn : n ≤ 100000) (w : World) : Calls Tryz.prog 50 #[.int .u64 (n : Int)] w fun e w' => e = .returned (iV (Lib.bitLen n)) ∧ w' = w := by
  have CC := Lib.hid (len64_any n hn w)
  obtain ⟨z, hz⟩ : ∃ z, z = Lib.bitLen n := ⟨_, rfl⟩
  rw [← hz] at CC ⊢
  clear hz
  go_enter Tryz.func50, Tryz.ntmps50
  go_wp2_with (fail)
  refine CC.out.mono ?_
  rintro e w' ⟨rfl, rfl⟩
  go_wp2
  go_ret
  exact ⟨rfl, rfl⟩
theorem pow_any (n : Nat) (hn : n ≤ 100000) (w : World) : Calls Tryz.prog 102 #[.int .i64 (n : Int)] w fun e w' => e = .returned (.int .u64 ((1 <<< Sort.bitsLen n : Nat) : Int)) ∧ w' = w := by
  have hk : Sort.bitsLen n ≤ 62 := (Sort.bitsLen_le_iff n 62).2 (by omega)
  have CC := Lib.hid (len_any n hn w)
  rw [bitLen_eq n (by omega)] at CC
  have hp := wrap_two_pow (Sort.bitsLen n) hk
  have wr : IntKind.u64.wrap (n : Int) = n := by simp [IntKind.wrap, IntKind.bits, IntKind.signed]; omega
  go_enter Tryz.func102, Tryz.ntmps102
  go_wp2_with (fail)
  refine CC.out.mono ?_
  rintro e w' ⟨rfl, rfl⟩
  go_wp2
  go_ret
  exact ⟨rfl, rfl⟩
end Srt
end Go.Proofs.YtmdphcebmgcdbaaGreat
end
section
namespace Go.Proofs.YtmdphcebmgcdbaaGreat
open Go.RowKit Go.Own
namespace Srt
abbrev regA (bx X : Nat) : Asn := AVals bx 167 [.int .u64 (X : Int)]
def bpS (a l m i0 : Nat) (st : UInt64 × Array Nat) : Nat → UInt64 × Array Nat
  | 0 => st
  | k + 1 => Sort.breakStep a l m (bpS a l m i0 st k) (i0 + k)
theorem break_eq (d : Array Nat) (a b l : Nat) (hl : l = b - a) (h8 : 8 ≤ l) : Sort.breakPatterns d a b = (bpS a l (1 <<< Sort.bitsLen l) (a + l / 4 * 2 - 1) (UInt64.ofNat l, d) 3).2 := by
  subst hl
  unfold Sort.breakPatterns
  simp only
  rw [if_pos h8]
  rfl
section
variable {Ok : Nat → Prop} {B : Nat} {w0 w : World} {Ts Rs : List Asn} {g n c bx X : Nat} {d : Array Nat}
theorem Sd.regC (S : Sd Ok B w0 Ts g n c (regA bx X :: Rs) w d) : w.cell? ⟨bx, 0, none⟩ = some (.int .u64 (X : Int)) ∧ w.frozen? ⟨bx, 0, none⟩ = false := S.st.cellV 1 rfl 0 rfl
theorem Sd.regS (S : Sd Ok B w0 Ts g n c (regA bx X :: Rs) w d) (Y : Nat) : Sd Ok B w0 Ts g n c (regA bx Y :: Rs) (w.setCell ⟨bx, 0, none⟩ (.int .u64 (Y : Int))) d :=
  ⟨S.st.storeV 1 rfl 0 (.int .u64 (Y : Int)), S.size, S.ok⟩
theorem Sd.regBox (S : Sd Ok B w0 Ts g n c Rs w d) (X : Nat) : Sd Ok B w0 Ts g n c (regA w.heap.size X :: Rs) (w.alloc (.cells #[.int .u64 (X : Int)] 167)) d :=
  ⟨(S.st.boxV 167 [.int .u64 (X : Int)]).swap2, S.size, S.ok⟩
theorem Sd.regDrop (S : Sd Ok B w0 Ts g n c (regA bx X :: Rs) w d) : Sd Ok B w0 Ts g n c Rs w d := ⟨S.st.drop2, S.size, S.ok⟩
theorem Sd.drewN (S : Sd Ok B w0 Ts g n c Rs w d) (k : Nat) : Sd Ok B w0 Ts g n c Rs (w.drewN k) d := ⟨S.st.drewN k, S.size, S.ok⟩
set_option maxHeartbeats 8000000 in
theorem break_any (S : Sd Ok B w0 Ts g n c Rs w d) (a b : Nat) (hab : a + 12 < b) (hb : b ≤ n) (hn : n ≤ 100000) (fv : Value) :
    Calls Tryz.prog 79 #[.slice (some ⟨g, 0, none⟩) n c, .int .i64 (a : Int), .int .i64 (b : Int), fv] w fun e w' => e = .returned (.tuple #[]) ∧ Sd Ok B w0 Ts g n c Rs w' (Sort.breakPatterns d a b) := by
  obtain ⟨l, hl⟩ : ∃ l, l = b - a := ⟨_, rfl⟩
  obtain ⟨m, hm⟩ : ∃ m, m = 1 <<< Sort.bitsLen l := ⟨_, rfl⟩
  have hm1 : 1 ≤ m := by rw [hm, Nat.one_shiftLeft]; exact Nat.two_pow_pos _
  have hm2 : m ≤ 2 * l := by rw [hm, Nat.one_shiftLeft]; exact Sort.two_pow_bitsLen_le (by omega)
  obtain ⟨q, hq⟩ : ∃ q, q = l / 4 := ⟨_, rfl⟩
  obtain ⟨i0, hi0⟩ : ∃ i, i = a + q * 2 - 1 := ⟨_, rfl⟩
  obtain ⟨ST, hST⟩ : ∃ f : Nat → UInt64 × Array Nat, f = bpS a l m i0 (UInt64.ofNat l, d) := ⟨_, rfl⟩
  have HEQ : Hid (Sort.breakPatterns d a b = (ST 3).2) := by show _ = _; rw [break_eq d a b l hl (by omega), hST, hm, hi0, hq]
  have HS0 : Hid (ST 0 = (UInt64.ofNat l, d)) := by rw [hST]; exact rfl
  have HSS : Hid (∀ k, ST (k + 1) = Sort.breakStep a l m (ST k) (i0 + k)) := by rw [hST]; exact fun k => rfl
  have NP : Hid (∀ W, Calls Tryz.prog 102 #[.int .i64 (l : Int)] W fun e w' => e = .returned (.int .u64 (m : Int)) ∧ w' = W) := by
    intro W
    have h := pow_any l (by omega) W
    rw [hm]
    exact h
  have hl2 : (b : Int) - (a : Int) = (l : Int) := by omega
  have hq2 : (l : Int).tdiv 4 = (q : Int) := by rw [hq]; rfl
  have hqs : (a : Int) + (q : Int) * 2 - 1 = (i0 : Int) := by omega
  obtain ⟨i2, hi2⟩ : ∃ i, i = i0 + 2 := ⟨_, rfl⟩
  have hqt : (a : Int) + (q : Int) * 2 + 1 = (i2 : Int) := by omega
  have hqb : q ≤ 100000 := by omega
  have hlb : l ≤ 100000 := by omega
  have hl8 : (8 : Int) ≤ (l : Int) := by omega
  have hin : i2 < n := by omega
  have hal : a + l ≤ n := by omega
  have hmb : m ≤ 200000 := by omega
  have HI2 := Lib.hid hi2
  have h0 := Lib.hid (S.regBox l)
  have HL : Hid ((UInt64.ofNat l).toNat = l) := by show _ = _; simp; omega
  clear S hm hST hq hi0 hl hi2
  go_enter Tryz.func79, Tryz.ntmps79
  go_wp2_with (fail)
  refine (NP.out _).mono ?_
  rintro e w1 ⟨rfl, rfl⟩
  go_wp2
  obtain ⟨bx, hbx⟩ : ∃ b, b = w.heap.size := ⟨_, rfl⟩
  rw [← hbx] at h0 ⊢
  clear hbx
  go_loopw [11] (fun v11 wr => ∃ (k i : Nat), k ≤ 3 ∧ i = i0 + k ∧ v11 = .int .i64 (i : Int) ∧ Sd Ok B w0 Ts g n c (regA bx (ST k).1.toNat :: Rs) wr (ST k).2) (fun v11 _ => i2 + 1 - (intOf v11).toNat)
  case atStart => exact ⟨0, i0, by omega, rfl, rfl, by rw [HS0.out, HL.out]; exact h0.out⟩
  case round =>
    obtain ⟨k, i, hk, hi, rfl, hs⟩ := hrel
    have HK := Lib.hid hs
    clear hs h0
    by_cases hk3 : k < 3
    · have HI := Lib.hid hi
      have hle : (i : Int) ≤ (i2 : Int) := by have := HI2.out; omega
      have hiN : i < n := by omega
      obtain ⟨X, hX⟩ : ∃ X, X = (ST k).1.toNat := ⟨_, rfl⟩
      have hXl : X < 18446744073709551616 := by rw [hX]; exact (ST k).1.toNat_lt
      obtain ⟨dk, hdk⟩ : ∃ d, d = (ST k).2 := ⟨_, rfl⟩
      rw [← hX, ← hdk] at HK
      obtain ⟨Y, hY⟩ : ∃ Y, Y = Sort.xorNextN X := ⟨_, rfl⟩
      have hYl : Y < 18446744073709551616 := by rw [hY]; exact Sort.xorNextN_lt X hXl
      obtain ⟨O, hO⟩ : ∃ O : Nat, O = Y &&& (m - 1) := ⟨_, rfl⟩
      have lO : O ≤ m - 1 := by rw [hO]; exact Nat.and_le_right
      have eAnd : bits .and .u64 (Y : Int) ((m : Int) - 1) = (O : Int) := by
        rw [show ((m : Int) - 1) = ((m - 1 : Nat) : Int) by omega, bits_and_u64_nat _ _ hYl (by omega), hO]
      obtain ⟨cR, fR⟩ := HK.out.regC
      have HNX : Hid (Calls Tryz.prog 103 #[.pointer (some ⟨bx, 0, none⟩)] wr fun e w' => e = .returned (.int .u64 (Y : Int)) ∧ w' = (wr.setCell ⟨bx, 0, none⟩ (.int .u64 (Y : Int))).drewN 3) := by
        show Calls _ _ _ _ _
        rw [hY]
        exact next_any bx X hXl wr cR fR
      have eN : Y = (Sort.xorNext (ST k).1).toNat := by rw [Sort.xorNext_toNat, ← hX, hY]
      have HX := Lib.hid ((HK.out.regS Y).drewN 3)
      have HSK : Hid (ST (k + 1) = (Sort.xorNext (ST k).1, Sort.swp dk i (a + if O ≥ l then O - l else O))) := by
        show _ = _
        rw [HSS.out, Sort.breakStep]
        rw [← eN, ← hO, ← hdk, ← HI.out]
      clear hX hdk hY hO cR fR HK hi
      have EN := Lib.hid eN
      clear eN
      by_cases hge : l ≤ O
      · obtain ⟨uu, hu⟩ : ∃ u, u = O - l := ⟨_, rfl⟩
        obtain ⟨e1, he1⟩ : ∃ e, e = a + uu := ⟨_, rfl⟩
        have he1n : e1 < n := by omega
        have hgeI : (l : Int) ≤ (O : Int) := by omega
        have huI : (O : Int) - (l : Int) = (uu : Int) := by omega
        have hub : uu ≤ 200000 := by omega
        have HST1 : Hid (ST (k + 1) = (Sort.xorNext (ST k).1, Sort.swp dk i e1)) := by show _ = _; rw [HSK.out, if_pos hge, ← hu, ← he1]
        clear hu
        have H1e : Hid ((Sort.xorNext (ST k).1).toNat = Y) := EN.out.symm
        clear HSK
        go_wp2_with (fail)
        refine HNX.out.mono ?_
        clear HNX
        rintro e w2 ⟨rfl, rfl⟩
        obtain ⟨w2, hw2⟩ : ∃ w2, w2 = (wr.setCell ⟨bx, 0, none⟩ (.int .u64 (Y : Int))).drewN 3 := ⟨_, rfl⟩
        rw [← hw2] at HX ⊢
        clear hw2
        obtain ⟨xi, hxi⟩ : ∃ x, x = dk[i]! := ⟨_, rfl⟩
        obtain ⟨xj, hxj⟩ : ∃ x, x = dk[e1]! := ⟨_, rfl⟩
        have H2 := Lib.hid (HX.out.swap hiN he1n).drew
        have k1 := HX.out.cell hiN
        have k2 := HX.out.cell he1n
        have f1 := HX.out.froz hiN
        have f2 := HX.out.froz he1n
        obtain ⟨u, k3⟩ := HX.out.swap2 hiN he1n
        rw [← hxi, ← hxj] at H2
        rw [← hxi] at k1
        rw [← hxj] at k2 k3
        clear hxi hxj
        have hs2 : IntKind.i64.wrap ((a : Int) + (uu : Int)) = (e1 : Int) := by rw [IntKind.wrap_i64]; omega
        clear he1
        go_wp2_with (fail)
        go_region
        go_wp2
        go_roundw
        case rel => exact ⟨k + 1, i + 1, by omega, by have := HI.out; omega, by go_num, by rw [HST1.out]; show Sd Ok B w0 Ts g n c (regA bx (Sort.xorNext (ST k).1).toNat :: Rs) _ _; rw [H1e.out]; exact H2.out⟩
        case measure => have := HI.out; have := HI2.out; simp [intOf]; omega
      · obtain ⟨e1, he1⟩ : ∃ e, e = a + O := ⟨_, rfl⟩
        have he1n : e1 < n := by omega
        have hgeI : ¬ (l : Int) ≤ (O : Int) := by omega
        have HST1 : Hid (ST (k + 1) = (Sort.xorNext (ST k).1, Sort.swp dk i e1)) := by show _ = _; rw [HSK.out, if_neg hge, ← he1]
        have H1e : Hid ((Sort.xorNext (ST k).1).toNat = Y) := EN.out.symm
        clear HSK
        go_wp2_with (fail)
        refine HNX.out.mono ?_
        clear HNX
        rintro e w2 ⟨rfl, rfl⟩
        obtain ⟨w2, hw2⟩ : ∃ w2, w2 = (wr.setCell ⟨bx, 0, none⟩ (.int .u64 (Y : Int))).drewN 3 := ⟨_, rfl⟩
        rw [← hw2] at HX ⊢
        clear hw2
        obtain ⟨xi, hxi⟩ : ∃ x, x = dk[i]! := ⟨_, rfl⟩
        obtain ⟨xj, hxj⟩ : ∃ x, x = dk[e1]! := ⟨_, rfl⟩
        have H2 := Lib.hid (HX.out.swap hiN he1n).drew
        have k1 := HX.out.cell hiN
        have k2 := HX.out.cell he1n
        have f1 := HX.out.froz hiN
        have f2 := HX.out.froz he1n
        obtain ⟨u, k3⟩ := HX.out.swap2 hiN he1n
        rw [← hxi, ← hxj] at H2
        rw [← hxi] at k1
        rw [← hxj] at k2 k3
        clear hxi hxj
        have hs2 : IntKind.i64.wrap ((a : Int) + (O : Int)) = (e1 : Int) := by rw [IntKind.wrap_i64]; omega
        clear he1
        go_wp2_with (fail)
        go_region
        go_wp2
        go_roundw
        case rel => exact ⟨k + 1, i + 1, by omega, by have := HI.out; omega, by go_num, by rw [HST1.out]; show Sd Ok B w0 Ts g n c (regA bx (Sort.xorNext (ST k).1).toNat :: Rs) _ _; rw [H1e.out]; exact H2.out⟩
        case measure => have := HI.out; have := HI2.out; simp [intOf]; omega
    · obtain rfl : k = 3 := by omega
      have hle : ¬ (i : Int) ≤ (i2 : Int) := by have := HI2.out; omega
      clear hi
      go_wp2
      go_end0
      rw [HEQ.out]
      exact ⟨rfl, HK.out.regDrop⟩
end
end Srt
end Go.Proofs.YtmdphcebmgcdbaaGreat
end
