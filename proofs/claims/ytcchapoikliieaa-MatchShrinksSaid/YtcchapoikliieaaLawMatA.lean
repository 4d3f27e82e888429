/- MatchAlls, MatchShrinks: the walks. -/
import Derived.Test.YtcchapoikliieaaMatQ
import Derived.Test.YtcchapoikliieaaArrEq
namespace Go.Proofs.Ytcchapoikliieaa
open Go.RowKit Go.Own
namespace Mat
open Go.MatM Byt

theorem cell_later {W w : World} {a : Addr} {v : Value} (h : W.cell? a = some v) (hb : Below W.heap.size W w) : w.cell? a = some v := by
  rw [hb.cell (World.block_lt_of_cell? W a h)]; exact h
theorem idx_pair {o : Oper} {x y : Tmp} (ho : o.op = .indexAddr 30 (.tmp x) (.tmp y)) (g n c k : Nat) (hk : k < n) : ∀ (ρ : Operand → Value) w, ρ (.tmp x) = .slice (some ⟨g, 0, none⟩) n c → ρ (.tmp y) = .int .i64 (k : Int) → (execOp ρ o).run Try.prog w = .ok (.value (.pointer (some ⟨g, 2 * k, none⟩))) w := by
  intro ρ w h0 h1
  have hk' : (k : Int) < (n : Int) := by omega
  simp [execOp, ho, h0, h1, go_sem, hk, hk', add_of]
theorem load_pair {o : Oper} {x : Tmp} (ho : o.op = .load 32 (.tmp x)) {b k : Nat} {d n : Nat} (ρ : Operand → Value) {w : World} (h1 : w.cell? ⟨b, k, none⟩ = some (.int .i64 (d : Int))) (h2 : w.cell? ⟨b, k + 1, none⟩ = some (.int .i64 (n : Int))) (h0 : ρ (.tmp x) = .pointer (some ⟨b, k, none⟩)) : (execOp ρ o).run Try.prog w = .ok (.value (.agg #[.int .i64 (d : Int), .int .i64 (n : Int)])) w := by
  have e0 : (⟨b, k, none⟩ : Addr).add 0 = ⟨b, k, none⟩ := by rw [add_of]; rfl
  have e1 : (⟨b, k, none⟩ : Addr).add 1 = ⟨b, k + 1, none⟩ := by rw [add_of]
  simp [execOp, ho, h0, go_sem, h1, h2, e0, e1]
theorem neq_pair {o : Oper} {x y : Tmp} (ho : o.op = .binOp .neq 32 (.tmp x) (.tmp y) 32) (d n : Nat) (ρ : Operand → Value) (w : World) (h0 : ρ (.tmp x) = .agg #[.int .i64 (d : Int), .int .i64 (n : Int)]) (h1 : ρ (.tmp y) = .agg #[.int .i64 (d : Int), .int .i64 (n : Int)]) : (execOp ρ o).run Try.prog w = .ok (.value (.bool false)) w := by
  have h := run_equalIn_ints (P := Try.prog) 9998 32 3 .i64 [(d : Int), (n : Int)] [(d : Int), (n : Int)] rfl Try.underlying32 Try.underlying3 (fun w => by kernel_rfl) (fun w => by kernel_rfl) w
  have h' : (Op.equalIn 10000 32 (.agg #[.int .i64 (d : Int), .int .i64 (n : Int)]) (.agg #[.int .i64 (d : Int), .int .i64 (n : Int)])).run Try.prog w = .ok true w := by simpa using h
  unfold execOp
  simp only [ho, h0, h1]
  generalize (#[.int .i64 (d : Int), .int .i64 (n : Int)] : Array Value) = A at h' ⊢
  simp [go_sem, h']

theorem all_st {B : Nat} {w0 w w' : World} {Ps : List Asn} {l : Bs} {len : Nat} {e : Ending} (H : St B w0 w Ps) (h : AllDone l len w e w') : ∃ ao cap, e = .returned (.slice ao len cap) ∧ St B w0 w' (AQ ao len cap (alls l) :: Ps) := by
  obtain ⟨ao, cap, T, he, hr, hs⟩ := h
  exact ⟨ao, cap, he, H.new (AQ ao len cap (alls l)) hr hs⟩
theorem alls_at (l : Bs) (i : Nat) (hi : i < l.length) : (alls l).getD i (0, 0) = longest l i := by
  unfold alls; simp [hi]

set_option maxHeartbeats 1600000 in
theorem walk_alls (a0 : Option Addr) (len0 cap0 : Nat) (x0 : Bs) {w : World} (w0 : inBytes x0 w.heap.size w [.slice a0 len0 cap0]) (K : Kept w) :
    Calls Try.prog 5 #[.slice a0 len0 cap0] w (RetYes w) := by
  obtain ⟨m, hm, hg, hf⟩ := few_in w0
  have HF := Lib.hid hf
  have SH := Lib.hid (shown_any K)
  obtain ⟨x, hx⟩ : ∃ x, x = fw x0 := ⟨_, rfl⟩
  rw [← hx] at hg
  have HL := Lib.hid hg.size
  have C1 := Lib.hid (fun wx (hwx : Below w.heap.size w wx) => K.all a0 m cap0 x wx hwx (hg.later hwx) (by omega))
  have C2 := Lib.hid (fun wx (hwx : Below w.heap.size w wx) => refAll_any a0 m cap0 x wx (hg.later hwx).view hg.size (by omega))
  clear hx hg hf w0 K
  go_enter Try.func5, Try.ntmps5
  go_wp2_with (fail)
  refine SH.out.mono ?_
  rintro e w1 ⟨rfl, h1⟩
  have B1 := Lib.hid ((Own.St.start w).later h1)
  clear h1
  go_wp2_with (fail)
  refine (HF.out w1).mono ?_
  rintro e w2 ⟨rfl, rfl⟩
  go_wp2_with (fail)
  refine (C1.out w1 B1.out.below).mono ?_
  intro e w2 h2
  obtain ⟨a1, c1, rfl, k2⟩ := all_st B1.out h2
  have B2 := Lib.hid k2
  clear k2 h2 B1
  go_wp2_with (fail)
  refine (HF.out w2).mono ?_
  rintro e w3 ⟨rfl, rfl⟩
  go_wp2_with (fail)
  refine (C2.out w2 B2.out.below).mono ?_
  intro e w3 h3
  obtain ⟨a2, c2, rfl, k3⟩ := all_st B2.out h3
  have B3 := Lib.hid k3
  clear k3 h3 B2
  go_wp2
  go_loopw [21] (fun v wr => ∃ i : Nat, i ≤ m ∧ v = .int .i64 (i : Int) ∧ Own.St w.heap.size w wr [AQ a2 m c2 (alls x), AQ a1 m c1 (alls x)]) (fun v _ => m - (intOf v).toNat)
  case atStart => exact ⟨0, Nat.zero_le _, rfl, B3.out⟩
  case round =>
    obtain ⟨i, him, rfl, H⟩ := hrel
    have H := Lib.hid H
    clear B3
    by_cases hi : i < m
    · obtain ⟨d, n, hdn⟩ : ∃ d n, (alls x).getD i (0, 0) = (d, n) := ⟨_, _, rfl⟩
      obtain ⟨g2, rfl, ca, cb⟩ := aq_at H.out 0 rfl i hi
      obtain ⟨g1, rfl, cc, cd⟩ := aq_at H.out 1 rfl i hi
      rw [hdn] at ca cb cc cd
      have CE2 : Hid (∀ wx, Below wr.heap.size wr wx → wx.cell? ⟨g2, 2 * i, none⟩ = some (.int .i64 (d : Int)) ∧ wx.cell? ⟨g2, 2 * i + 1, none⟩ = some (.int .i64 (n : Int))) := fun wx hwx => ⟨cell_later ca hwx, cell_later cb hwx⟩
      have CE1 : Hid (∀ wx, Below wr.heap.size wr wx → wx.cell? ⟨g1, 2 * i, none⟩ = some (.int .i64 (d : Int)) ∧ wx.cell? ⟨g1, 2 * i + 1, none⟩ = some (.int .i64 (n : Int))) := fun wx hwx => ⟨cell_later cc hwx, cell_later cd hwx⟩
      clear ca cb cc cd hdn
      go_wp2
      refine wp_lax_list (by kernel_rfl) (by kernel_rfl) (by kernel_rfl) ?_
      refine wpL_move (.slice (some ⟨g1, 0, none⟩) m c1) rfl (by kernel_rfl) (by kernel_rfl) (by kernel_rfl) (by kernel_rfl) ?_
      refine wpL_move (.int .i64 (i : Int)) rfl (by kernel_rfl) (by kernel_rfl) (by kernel_rfl) (by kernel_rfl) ?_
      refine wpL_run2 (x := .tmp 24) (y := .tmp 25) (.slice (some ⟨g1, 0, none⟩) m c1) (.int .i64 (i : Int)) (.pointer (some ⟨g1, 2 * i, none⟩)) (by kernel_rfl) (by kernel_rfl) (by kernel_rfl) (by kernel_rfl) (by kernel_rfl) (by kernel_rfl) (fun wx ρ hwx h0 h1 hc => idx_pair rfl g1 m c1 i hi ρ wx h0 h1) ?_
      refine wpL_run1 (x := .tmp 26) (.pointer (some ⟨g1, 2 * i, none⟩)) (.agg #[.int .i64 (d : Int), .int .i64 (n : Int)]) (by kernel_rfl) (by kernel_rfl) (by kernel_rfl) (by kernel_rfl) (by kernel_rfl) (fun wx ρ hwx h0 hc => load_pair rfl ρ (CE1.out wx hwx).1 (CE1.out wx hwx).2 h0) ?_
      refine wpL_move (.slice (some ⟨g2, 0, none⟩) m c2) rfl (by kernel_rfl) (by kernel_rfl) (by kernel_rfl) (by kernel_rfl) ?_
      refine wpL_move (.int .i64 (i : Int)) rfl (by kernel_rfl) (by kernel_rfl) (by kernel_rfl) (by kernel_rfl) ?_
      refine wpL_run2 (x := .tmp 28) (y := .tmp 29) (.slice (some ⟨g2, 0, none⟩) m c2) (.int .i64 (i : Int)) (.pointer (some ⟨g2, 2 * i, none⟩)) (by kernel_rfl) (by kernel_rfl) (by kernel_rfl) (by kernel_rfl) (by kernel_rfl) (by kernel_rfl) (fun wx ρ hwx h0 h1 hc => idx_pair rfl g2 m c2 i hi ρ wx h0 h1) ?_
      refine wpL_run1 (x := .tmp 30) (.pointer (some ⟨g2, 2 * i, none⟩)) (.agg #[.int .i64 (d : Int), .int .i64 (n : Int)]) (by kernel_rfl) (by kernel_rfl) (by kernel_rfl) (by kernel_rfl) (by kernel_rfl) (fun wx ρ hwx h0 hc => load_pair rfl ρ (CE2.out wx hwx).1 (CE2.out wx hwx).2 h0) ?_
      refine wpL_run2 (x := .tmp 27) (y := .tmp 31) (.agg #[.int .i64 (d : Int), .int .i64 (n : Int)]) (.agg #[.int .i64 (d : Int), .int .i64 (n : Int)]) (.bool false) (by kernel_rfl) (by kernel_rfl) (by kernel_rfl) (by kernel_rfl) (by kernel_rfl) (by kernel_rfl) (fun wx ρ hwx h0 h1 hc => neq_pair rfl d n ρ wx h0 h1) ?_
      refine wpL_end (by kernel_rfl) (fun wd hwd => ?_)
      simp only [FinL, setL, List.set_cons_zero, List.set_cons_succ]
      have G := Lib.hid (H.out.later hwd)
      clear hwd CE1 CE2 H
      go_wp2
      go_roundw
      case rel => exact ⟨i + 1, by omega, by go_num, G.out⟩
      case measure => simp [intOf]; omega
    · go_wp2
      go_ret
      exact ⟨rfl, H.out.below⟩

set_option maxHeartbeats 1600000 in
theorem walk_shrinks (a0 : Option Addr) (len0 cap0 : Nat) (x0 : Bs) {w : World} (w0 : inBytes x0 w.heap.size w [.slice a0 len0 cap0]) (K : Kept w) :
    Calls Try.prog 7 #[.slice a0 len0 cap0] w (RetYes w) := by
  obtain ⟨m, hm, hg, hf⟩ := few_in w0
  have HF := Lib.hid hf
  have SH := Lib.hid (shown_any K)
  obtain ⟨x, hx⟩ : ∃ x, x = fw x0 := ⟨_, rfl⟩
  rw [← hx] at hg
  have HL := Lib.hid hg.size
  have C1 := Lib.hid (fun wx (hwx : Below w.heap.size w wx) => K.all a0 m cap0 x wx hwx (hg.later hwx) (by omega))
  clear hx hg hf w0 K
  go_enter Try.func7, Try.ntmps7
  go_wp2_with (fail)
  refine SH.out.mono ?_
  rintro e w1 ⟨rfl, h1⟩
  have B1 := Lib.hid ((Own.St.start w).later h1)
  clear h1
  go_wp2_with (fail)
  refine (HF.out w1).mono ?_
  rintro e w2 ⟨rfl, rfl⟩
  go_wp2_with (fail)
  refine (C1.out w1 B1.out.below).mono ?_
  intro e w2 h2
  obtain ⟨a1, c1, rfl, k2⟩ := all_st B1.out h2
  have B2 := Lib.hid k2
  clear k2 h2 B1
  go_wp2
  go_loopw [5] (fun v wr => ∃ i : Nat, 1 ≤ i ∧ i ≤ m + 1 ∧ v = .int .i64 (i : Int) ∧ Own.St w.heap.size w wr [AQ a1 m c1 (alls x)]) (fun v _ => m + 1 - (intOf v).toNat)
  case atStart => exact ⟨1, Nat.le_refl _, by omega, rfl, B2.out⟩
  case round =>
    obtain ⟨i, h1i, him, rfl, H⟩ := hrel
    have H := Lib.hid H
    clear B2
    by_cases hi : i < m
    · obtain ⟨j, hj⟩ : ∃ j, i = j + 1 := ⟨i - 1, by omega⟩
      have hjm : j < m := by omega
      have hjmi : (j : Int) < (m : Int) := by omega
      have hij : (i : Int) - 1 = (j : Int) := by omega
      obtain ⟨d, n, hdn⟩ : ∃ d n, (alls x).getD j (0, 0) = (d, n) := ⟨_, _, rfl⟩
      obtain ⟨d2, n2, hdn2⟩ : ∃ d n, (alls x).getD i (0, 0) = (d, n) := ⟨_, _, rfl⟩
      have e1 := alls_at x j (by rw [HL.out]; exact hjm)
      have e2 := alls_at x i (by rw [HL.out]; exact hi)
      rw [hdn] at e1
      rw [hdn2] at e2
      have HSH : Hid (3 < n → n < 130 → n - 1 ≤ n2) := by
        intro h3 h130
        have h := longest_shrinks x i d n (by omega) (by rw [HL.out]; exact hi) (by rw [show i - 1 = j by omega]; exact e1.symm) h3 h130
        rw [← e2] at h
        exact h
      obtain ⟨g1, rfl, ca, cb⟩ := aq_at H.out 0 rfl j hjm
      obtain ⟨g1', hg1, cc, cd⟩ := aq_at H.out 0 rfl i hi
      cases hg1
      rw [hdn] at cb
      rw [hdn2] at cd
      rw [show 2 * j + 1 = j * 2 + 1 by omega] at cb
      rw [show 2 * i + 1 = i * 2 + 1 by omega] at cd
      have hnb : n ≤ 130 := by
        rcases Nat.lt_or_ge n 131 with h | h
        · omega
        · exfalso
          have h0 := (longest_runs x j d n e1.symm (by omega)).2.2.2.2.1
          omega
      clear ca cc hdn hdn2 e1 e2 hj
      by_cases h3 : (3 : Int) < (n : Int)
      · by_cases h130 : (n : Int) < 130
        · have hno : ¬ (n2 : Int) < (n : Int) - 1 := by have := HSH.out (by omega) (by omega); omega
          go_wp2
          go_roundw
          case rel => exact ⟨i + 1, by omega, by omega, by go_num, H.out⟩
          case measure => simp [intOf]; omega
        · go_wp2
          go_roundw
          case rel => exact ⟨i + 1, by omega, by omega, by go_num, H.out⟩
          case measure => simp [intOf]; omega
      · go_wp2
        go_roundw
        case rel => exact ⟨i + 1, by omega, by omega, by go_num, H.out⟩
        case measure => simp [intOf]; omega
    · go_wp2_with (fail)
      refine (HF.out wr).mono ?_
      rintro e w3 ⟨rfl, rfl⟩
      go_wp2
      go_ret
      exact ⟨rfl, H.out.below⟩

end Mat
end Go.Proofs.Ytcchapoikliieaa
