/- The document's round. -/
import Derived.Test.YtfbpajiddkehnaaDoorKecR
import Derived.Test.YtfbpajiddkehnaaDoorKecF
import Derived.Laws.Rows
import Derived.Deep.MidRow
namespace Go.Proofs.YtfbpajiddkehnaaDoor
open Go.RowKit Go.Own
namespace Kec
open Go.KecM

/-- words in a block of one's own -/
def A64 (b : Nat) (t : TypeId) (ws : List W) : Asn := AVals b t (ws.map u64V)
theorem A64.cell {B : Nat} {w0 w : World} {Ps : List Asn} {b : Nat} {t : TypeId} {ws : List W} (h : Own.St B w0 w Ps) (i : Nat) (hi : Ps[i]? = some (A64 b t ws)) (j : Nat) (hj : j < ws.length) {v : W} (hv : ws.getD j 0 = v) : w.cell? ⟨b, j, none⟩ = some (.int .u64 (v.toNat : Int)) ∧ w.frozen? ⟨b, j, none⟩ = false :=
  h.cellV i hi j (by simp [u64V, hj, ← hv])
theorem A64.store {B : Nat} {w0 w : World} {Ps : List Asn} {b : Nat} {t : TypeId} {ws : List W} (h : Own.St B w0 w Ps) (i : Nat) (hi : Ps[i]? = some (A64 b t ws)) (j : Nat) (v : W) : Own.St B w0 (w.setCell ⟨b, j, none⟩ (.int .u64 (v.toNat : Int))) (Ps.set i (A64 b t (ws.set j v))) := by
  have := h.storeV i hi j (u64V v)
  unfold A64
  rw [List.map_set]
  exact this
theorem A64.box {B : Nat} {w0 w : World} {Ps : List Asn} (h : Own.St B w0 w Ps) (t : TypeId) (ws : List W) : Own.St B w0 (w.alloc (.cells (ws.map u64V).toArray t)) (A64 w.heap.size t ws :: Ps) := h.boxV t _
/-- how many cells the state has -/
theorem info_lanes (ws : List W) (h : ws.length = 25) : (Tryd.prog.info? 41).map (·.size) = some (ws.map u64V).toArray.size := by
  have e : (ws.map u64V).toArray.size = 25 := by simp [h]
  have h0 : (Tryd.prog.info? 41).map (fun i => i.size) = some 25 := by kernel_rfl
  rw [e]
  exact h0
theorem one_cells (ws : List W) : (ws.map u64V).toArray.all (·.oneCell') = true :=
  all_oneCell_toArray (fun v hv => by obtain ⟨x, _, rfl⟩ := List.mem_map.1 hv; rfl)
theorem A64.row {B : Nat} {w0 w : World} {Ps : List Asn} {b : Nat} {t : TypeId} {ws : List W} (h : Own.St B w0 w Ps) (i : Nat) (hi : Ps[i]? = some (A64 b t ws)) : w.heap[b]? = some (.cells (ws.map u64V).toArray t (0, 0)) := h.rowV i hi
theorem A64.there {B : Nat} {w0 w : World} {Ps : List Asn} {b : Nat} {t : TypeId} {ws : List W} (h : Own.St B w0 w Ps) (i : Nat) (hi : Ps[i]? = some (A64 b t ws)) (rs : List W) (hl : rs.length = ws.length) : w.there b 0 (rs.map u64V).toArray.size :=
  h.thereV i hi (by simp [hl])
theorem A64.setAll {B : Nat} {w0 w : World} {Ps : List Asn} {b : Nat} {t : TypeId} {ws : List W} (h : Own.St B w0 w Ps) (i : Nat) (hi : Ps[i]? = some (A64 b t ws)) (rs : List W) (hl : rs.length = ws.length) : Own.St B w0 (w.setCells b 0 (rs.map u64V).toArray.toList) (Ps.set i (A64 b t rs)) := by
  have := Own.St.setAll i (rs.map u64V) 0 w Ps (ws.map u64V) h hi (by simp [hl])
  simpa [A64] using this
/-- a cell, in every later world -/
theorem cell_later {W w : World} {a : Addr} {v : Value} (h : W.cell? a = some v) (hb : Below W.heap.size W w) : w.cell? a = some v := by
  rw [hb.cell (World.block_lt_of_cell? W a h)]; exact h

theorem idx5 {o : Oper} {x y : Tmp} (ho : o.op = .indexAddr 49 (.tmp x) (.tmp y)) (k : Nat) (hk : k < 5) (b : Nat) : ∀ (ρ : Operand → Value) w, ρ (.tmp x) = .pointer (some ⟨b, 0, none⟩) → ρ (.tmp y) = .int .i64 k → (execOp ρ o).run Tryd.prog w = .ok (.value (.pointer (some ⟨b, k, none⟩))) w := by
  intro ρ w h0 h1
  have hk' : (k : Int) < 5 := by omega
  simp [execOp, ho, h0, h1, go_sem, hk, hk']
theorem idx25 {o : Oper} {x y : Tmp} (ho : o.op = .indexAddr 41 (.tmp x) (.tmp y)) (k : Nat) (hk : k < 25) (b : Nat) : ∀ (ρ : Operand → Value) w, ρ (.tmp x) = .pointer (some ⟨b, 0, none⟩) → ρ (.tmp y) = .int .i64 k → (execOp ρ o).run Tryd.prog w = .ok (.value (.pointer (some ⟨b, k, none⟩))) w := by
  intro ρ w h0 h1
  have hk' : (k : Int) < 25 := by omega
  simp [execOp, ho, h0, h1, go_sem, hk, hk']
theorem load64 {o : Oper} {x : Tmp} (ho : o.op = .load 39 (.tmp x)) {a : Addr} {v : W} (ρ : Operand → Value) {w : World} (hc : w.cell? a = some (.int .u64 (v.toNat : Int))) (h0 : ρ (.tmp x) = .pointer (some a)) : (execOp ρ o).run Tryd.prog w = .ok (.value (.int .u64 (v.toNat : Int))) w := by
  simp [execOp, ho, h0, go_sem, hc]

theorem at_nat (x y i : Nat) (hi : i = x % 5 + 5 * (y % 5)) (w : World) : Calls Tryd.prog 21 #[.int .i64 x, .int .i64 y] w fun e w' => e = .returned (.int .i64 i) ∧ Below w.heap.size w w' := by
  have h := at_any x y w
  rw [show (x : Int) % 5 + 5 * ((y : Int) % 5) = (i : Int) by omega] at h
  exact h.mono fun _ _ h => ⟨h.1, h.2 ▸ Below.refl _ _⟩

theorem sub_one {o : Oper} {t : Tmp} (ho : o.op = .binOp .sub 3 (.tmp t) (.const (.int .i64 1)) 3) (k : Nat) (hk : k ≤ 1000) : ∀ (ρ : Operand → Value) w, ρ (.tmp t) = .int .i64 k → (∀ c, ρ (.const c) = c) → (execOp ρ o).run Tryd.prog w = .ok (.value (.int .i64 ((k : Int) - 1))) w := by
  intro ρ w h0 hc
  have e : IntKind.i64.wrap ((k : Int) - 1) = (k : Int) - 1 := IntWalk.i64_in _ (by omega)
  simp [execOp, ho, h0, hc, go_sem, e]
theorem add_lit (c : Nat) {o : Oper} {t : Tmp} (ho : o.op = .binOp .add 3 (.tmp t) (.const (.int .i64 (c : Int))) 3) (k : Nat) (hk : k ≤ 1000) (hcl : c ≤ 1000) : ∀ (ρ : Operand → Value) w, ρ (.tmp t) = .int .i64 k → (∀ c, ρ (.const c) = c) → (execOp ρ o).run Tryd.prog w = .ok (.value (.int .i64 ((k + c : Nat) : Int))) w := by
  intro ρ w h0 hc
  have e : IntKind.i64.wrap ((k : Int) + (c : Int)) = (k : Int) + (c : Int) := IntWalk.i64_in _ (by omega)
  simp [execOp, ho, h0, hc, go_sem, e]
theorem five_nat (n : Int) (q : Nat) (hq : n % 5 = (q : Int)) (w : World) : Calls Tryd.prog 22 #[.int .i64 n] w fun e w' => e = .returned (.int .i64 q) ∧ Below w.heap.size w w' := by
  have h := five_any n w
  rw [hq] at h
  exact h.mono fun _ _ h => ⟨h.1, h.2 ▸ Below.refl _ _⟩
theorem rot_below (x : W) (n : Nat) (hn : n < 64) (w : World) : Calls Tryd.prog 23 #[.int .u64 x.toNat, .int .i64 n] w fun e w' => e = .returned (.int .u64 (rot x n).toNat) ∧ Below w.heap.size w w' :=
  (turnW_any x n hn w).mono fun _ _ ⟨h1, m, h2⟩ => ⟨h1, by subst h2; exact ⟨rfl, rfl, rfl, Nat.le_refl _, fun _ _ => rfl⟩⟩

set_option maxHeartbeats 4000000 in
theorem roundOf_any (s : KecM.St) (hs : s.length = 25) (round : Int) (h0 : -9223372036854775808 ≤ round) (h1 : round ≤ 9223372036854775807) (w : World) :
    Calls Tryd.prog 19 #[.agg (s.map u64V).toArray, .int .i64 round] w fun e w' => e = .returned (.agg ((roundM (markOf round) s).map u64V).toArray) ∧ Below w.heap.size w w' := by
  have HSL := Lib.hid hs
  clear hs
  go_enter Tryd.func19, Tryd.ntmps19
  go_wp2
  have hst := A64.box (A64.box (A64.box (Own.St.start w) 41 s) 41 (List.replicate 25 0)) 49 (List.replicate 5 0)
  simp only [size_alloc', ← pcell_zero s] at hst
  change Code.wp _ _ _ _ (((w.alloc (.cells (s.map u64V).toArray 41)).alloc (.cells ((List.replicate 25 (0 : KecM.W)).map u64V).toArray 41)).alloc (.cells ((List.replicate 5 (0 : KecM.W)).map u64V).toArray 49))
  rw [← pcell_zero s]
  generalize ((w.alloc (.cells (s.map u64V).toArray 41)).alloc (.cells ((List.replicate 25 (0 : KecM.W)).map u64V).toArray 41)).alloc (.cells ((pcell s 0 0).map u64V).toArray 49) = W1 at hst ⊢
  obtain ⟨bs, hbs⟩ : ∃ b, b = w.heap.size := ⟨_, rfl⟩
  obtain ⟨br, hbr⟩ : ∃ b, b = w.heap.size + 1 := ⟨_, rfl⟩
  obtain ⟨bp, hbp⟩ : ∃ b, b = w.heap.size + 1 + 1 := ⟨_, rfl⟩
  rw [← hbp, ← hbr] at hst ⊢
  have HST : Hid (Own.St w.heap.size w W1 [A64 bp 49 (pcell s 0 0), A64 br 41 (List.replicate 25 0), A64 bs 41 s]) := by rw [hbs]; exact hst
  rw [← hbs]
  clear hst hbs hbr hbp
  go_loopw [6] (fun i wr => ∃ x : Nat, x ≤ 5 ∧ i = .int .i64 x ∧ Own.St w.heap.size w wr [A64 bp 49 (pcell s x 0), A64 br 41 (List.replicate 25 0), A64 bs 41 s]) (fun i _ => 5 - (intOf i).toNat)
  case atStart => exact ⟨0, by omega, rfl, HST.out⟩
  case round =>
    obtain ⟨x, hx5, rfl, H⟩ := hrel
    have H := Lib.hid H
    by_cases hx : (x : Int) < 5
    · obtain ⟨wo, hwo⟩ : ∃ wo, wo = wr := ⟨_, rfl⟩
      rw [← hwo] at H ⊢
      clear hwo
      go_wp2
      go_loopw [7] (fun i wr => ∃ y : Nat, y ≤ 5 ∧ i = .int .i64 y ∧ Own.St w.heap.size w wr [A64 bp 49 (pcell s x y), A64 br 41 (List.replicate 25 0), A64 bs 41 s]) (fun i _ => 5 - (intOf i).toNat)
      case atStart => exact ⟨0, by omega, rfl, H.out⟩
      case round =>
        obtain ⟨y, hy5, rfl, G⟩ := hrel
        have G := Lib.hid G
        by_cases hy : (y : Int) < 5
        · obtain ⟨i, hi⟩ : ∃ i, i = x % 5 + 5 * (y % 5) := ⟨_, rfl⟩
          have hxn : x < 5 := by omega
          have hyn : y < 5 := by omega
          have hil : i < 25 := by omega
          obtain ⟨z1, hz1⟩ : ∃ z, z = parTo s x y := ⟨_, rfl⟩
          obtain ⟨z2, hz2⟩ : ∃ z, z = at' s x y := ⟨_, rfl⟩
          obtain ⟨z3, hz3⟩ : ∃ z, z = z1 ^^^ z2 := ⟨_, rfl⟩
          have HC1 : Hid (∀ wx, Below wr.heap.size wr wx → wx.cell? ⟨bp, x, none⟩ = some (.int .u64 (z1.toNat : Int))) := fun wx hwx => cell_later (A64.cell G.out 0 rfl x (by simp [pcell]; omega) (by rw [pcell_get s x y hxn, hz1])).1 hwx
          have HC2 : Hid (∀ wx, Below wr.heap.size wr wx → wx.cell? ⟨bs, i, none⟩ = some (.int .u64 (z2.toNat : Int))) := fun wx hwx => cell_later (A64.cell G.out 2 rfl i (by rw [HSL.out]; exact hil) (by rw [hz2, ← at_get s x y hxn hyn, hi]; congr 1; omega)).1 hwx
          have HX : Hid (bits .xor .u64 (z1.toNat : Int) (z2.toNat : Int) = (z3.toNat : Int)) := by
            show bits .xor .u64 (z1.toNat : Int) (z2.toNat : Int) = (z3.toNat : Int)
            rw [u64_xor_nat _ _ z1.isLt z2.isLt, hz3, BitVec.toNat_xor]
          have HZ : Hid ((pcell s x y).set x z3 = pcell s x (y + 1)) := by show (pcell s x y).set x z3 = _; rw [hz3, hz1, hz2, pcell_set]
          clear hz1 hz2 hz3
          have hx := hxn
          go_wp2
          refine wp_laxT_list 11 (by kernel_rfl) (by kernel_rfl) (by kernel_rfl) (by kernel_rfl) (by kernel_rfl) ?_
          simp only [List.take_succ_cons, List.take_zero, List.drop_succ_cons, List.drop_zero]
          refine wpL_move (.int .i64 x) rfl (by kernel_rfl) (by kernel_rfl) (by kernel_rfl) (by kernel_rfl) ?_
          refine wpL_move (.int .i64 x) rfl (by kernel_rfl) (by kernel_rfl) (by kernel_rfl) (by kernel_rfl) ?_
          refine wpL_run2 (x := .tmp 5) (y := .tmp 24) (.pointer (some ⟨bp, 0, none⟩)) (.int .i64 x) (.pointer (some ⟨bp, x, none⟩)) (by kernel_rfl) (by kernel_rfl) (by kernel_rfl) (by kernel_rfl) (by kernel_rfl) (by kernel_rfl) (fun wx ρ hwx h0 h1 hc => idx5 rfl x hx bp ρ wx h0 h1) ?_
          refine wpL_run1 (x := .tmp 25) (.pointer (some ⟨bp, x, none⟩)) (.int .u64 z1.toNat) (by kernel_rfl) (by kernel_rfl) (by kernel_rfl) (by kernel_rfl) (by kernel_rfl) (fun wx ρ hwx h0 hc => load64 rfl ρ (HC1.out wx hwx) h0) ?_
          refine wpL_move (.int .i64 x) rfl (by kernel_rfl) (by kernel_rfl) (by kernel_rfl) (by kernel_rfl) ?_
          refine wpL_move (.int .i64 y) rfl (by kernel_rfl) (by kernel_rfl) (by kernel_rfl) (by kernel_rfl) ?_
          refine wpL_fn (.int .i64 i) [.int .i64 x, .int .i64 y] rfl (by kernel_rfl) (by kernel_rfl) (by kernel_rfl) (by kernel_rfl) (fun _ _ => by simp [go_sem]) (fun wx hwx => at_nat x y i hi wx) ?_
          refine wpL_run2 (x := .tmp 2) (y := .tmp 29) (.pointer (some ⟨bs, 0, none⟩)) (.int .i64 i) (.pointer (some ⟨bs, i, none⟩)) (by kernel_rfl) (by kernel_rfl) (by kernel_rfl) (by kernel_rfl) (by kernel_rfl) (by kernel_rfl) (fun wx ρ hwx h0 h1 hc => idx25 rfl i hil bs ρ wx h0 h1) ?_
          refine wpL_run1 (x := .tmp 30) (.pointer (some ⟨bs, i, none⟩)) (.int .u64 z2.toNat) (by kernel_rfl) (by kernel_rfl) (by kernel_rfl) (by kernel_rfl) (by kernel_rfl) (fun wx ρ hwx h0 hc => load64 rfl ρ (HC2.out wx hwx) h0) ?_
          refine wpL_run2 (x := .tmp 26) (y := .tmp 31) (.int .u64 z1.toNat) (.int .u64 z2.toNat) (.int .u64 z3.toNat) (by kernel_rfl) (by kernel_rfl) (by kernel_rfl) (by kernel_rfl) (by kernel_rfl) (by kernel_rfl) (fun wx ρ hwx h0 h1 hc => by simp [h0, h1, hc, go_sem, HX.out]) ?_
          refine wpL_run2 (x := .tmp 5) (y := .tmp 23) (.pointer (some ⟨bp, 0, none⟩)) (.int .i64 x) (.pointer (some ⟨bp, x, none⟩)) (by kernel_rfl) (by kernel_rfl) (by kernel_rfl) (by kernel_rfl) (by kernel_rfl) (by kernel_rfl) (fun wx ρ hwx h0 h1 hc => idx5 rfl x hx bp ρ wx h0 h1) ?_
          refine wpL_end (by kernel_rfl) (fun wd hwd => ?_)
          simp only [FinL, setL, List.set_cons_zero, List.set_cons_succ]
          have G2 := Lib.hid (G.out.later hwd)
          obtain ⟨cp, fp⟩ := A64.cell G2.out 0 rfl x (by simp [pcell]; omega) (pcell_get s x y hxn)
          have PUT := Lib.hid (A64.store G2.out 0 rfl x z3)
          clear hwd HC1 HC2 HX
          go_wp2
          go_roundw
          case rel =>
            have h := PUT.out
            rw [HZ.out] at h
            exact ⟨y + 1, by omega, by go_num, h⟩
          case measure => simp [intOf]; omega
        · have hy : y = 5 := by omega
          have G2 : Hid (Own.St w.heap.size w wr [A64 bp 49 (pcell s (x + 1) 0), A64 br 41 (List.replicate 25 0), A64 bs 41 s]) := by
            have h := G.out
            rw [hy, pcell_next] at h
            exact h
          clear hy
          go_wp2
          go_roundw
          case rel => exact ⟨x + 1, by omega, by go_num, G2.out⟩
          case measure => simp [intOf]; omega
    · have hx : x = 5 := by omega
      have H2 : Hid (Own.St w.heap.size w wr [A64 bp 49 (pcell s 5 0), A64 br 41 (List.replicate 25 0), A64 bs 41 s]) := by
        have h := H.out
        rw [hx] at h
        exact h
      clear hx
      have HA := Lib.hid (A64.box H2.out 41 (List.replicate 25 0))
      obtain ⟨ba, hba⟩ : ∃ b, b = wr.heap.size := ⟨_, rfl⟩
      rw [← hba] at HA
      go_wp2
      change Code.wp _ _ _ _ (wr.alloc (.cells ((List.replicate 25 (0 : KecM.W)).map u64V).toArray 41))
      rw [← hba]
      generalize wr.alloc (.cells ((List.replicate 25 (0 : KecM.W)).map u64V).toArray 41) = W2 at HA ⊢
      clear hba
      have HA2 : Hid (Own.St w.heap.size w W2 [A64 ba 41 (fill 25 ord2 (fin2 s) (5 * 0)), A64 bp 49 (pcell s 5 0), A64 br 41 (List.replicate 25 0), A64 bs 41 s]) := by
        rw [Nat.mul_zero, fill_zero]; exact HA.out
      clear HA
      go_loopw [9] (fun i wr => ∃ x : Nat, x ≤ 5 ∧ i = .int .i64 x ∧ Own.St w.heap.size w wr [A64 ba 41 (fill 25 ord2 (fin2 s) (5 * x)), A64 bp 49 (pcell s 5 0), A64 br 41 (List.replicate 25 0), A64 bs 41 s]) (fun i _ => 5 - (intOf i).toNat)
      case atStart => exact ⟨0, by omega, rfl, HA2.out⟩
      case round =>
        obtain ⟨x, hx5, rfl, H⟩ := hrel
        have H := Lib.hid H
        by_cases hx : (x : Int) < 5
        · obtain ⟨wo, hwo⟩ : ∃ wo, wo = wr := ⟨_, rfl⟩
          rw [← hwo] at H ⊢
          clear hwo
          go_wp2
          go_loopw [10] (fun i wr => ∃ y : Nat, y ≤ 5 ∧ i = .int .i64 y ∧ Own.St w.heap.size w wr [A64 ba 41 (fill 25 ord2 (fin2 s) (5 * x + y)), A64 bp 49 (pcell s 5 0), A64 br 41 (List.replicate 25 0), A64 bs 41 s]) (fun i _ => 5 - (intOf i).toNat)
          case atStart => exact ⟨0, by omega, rfl, H.out⟩
          case round =>
            obtain ⟨y, hy5, rfl, G⟩ := hrel
            have G := Lib.hid G
            by_cases hy : (y : Int) < 5
            · obtain ⟨i, hi⟩ : ∃ i, i = x % 5 + 5 * (y % 5) := ⟨_, rfl⟩
              obtain ⟨q4, hq4⟩ : ∃ q : Nat, ((x : Int) - 1) % 5 = (q : Int) := ⟨(((x : Int) - 1) % 5).toNat, by omega⟩
              obtain ⟨q1, hq1⟩ : ∃ q : Nat, ((x + 1 : Nat) : Int) % 5 = (q : Int) := ⟨(x + 1) % 5, by omega⟩
              have hxn : x < 5 := by omega
              have hyn : y < 5 := by omega
              have hx10 : x ≤ 1000 := by omega
              have hil : i < 25 := by omega
              have hq4l : q4 < 5 := by omega
              have hq1l : q1 < 5 := by omega
              obtain ⟨z1, hz1⟩ : ∃ z, z = at' s x y := ⟨_, rfl⟩
              obtain ⟨z2, hz2⟩ : ∃ z, z = par s (x + 4) := ⟨_, rfl⟩
              obtain ⟨z3, hz3⟩ : ∃ z, z = z1 ^^^ z2 := ⟨_, rfl⟩
              obtain ⟨z4, hz4⟩ : ∃ z, z = par s (x + 1) := ⟨_, rfl⟩
              obtain ⟨z5, hz5⟩ : ∃ z, z = rot z4 1 := ⟨_, rfl⟩
              obtain ⟨z6, hz6⟩ : ∃ z, z = z3 ^^^ z5 := ⟨_, rfl⟩
              have HC1 : Hid (∀ wx, Below wr.heap.size wr wx → wx.cell? ⟨bs, i, none⟩ = some (.int .u64 (z1.toNat : Int))) := fun wx hwx => cell_later (A64.cell G.out 3 rfl i (by rw [HSL.out]; exact hil) (by rw [hz1, ← at_get s x y hxn hyn, hi]; congr 1; omega)).1 hwx
              have HC2 : Hid (∀ wx, Below wr.heap.size wr wx → wx.cell? ⟨bp, q4, none⟩ = some (.int .u64 (z2.toNat : Int))) := fun wx hwx => cell_later (A64.cell G.out 1 rfl q4 (by simp [pcell]; omega) (by rw [pcell_all s q4 hq4l, hz2, ← par_mod s (x + 4), show (x + 4) % 5 = q4 by omega])).1 hwx
              have HC4 : Hid (∀ wx, Below wr.heap.size wr wx → wx.cell? ⟨bp, q1, none⟩ = some (.int .u64 (z4.toNat : Int))) := fun wx hwx => cell_later (A64.cell G.out 1 rfl q1 (by simp [pcell]; omega) (by rw [pcell_all s q1 hq1l, hz4, ← par_mod s (x + 1), show (x + 1) % 5 = q1 by omega])).1 hwx
              have HX3 : Hid (bits .xor .u64 (z1.toNat : Int) (z2.toNat : Int) = (z3.toNat : Int)) := by
                show bits .xor .u64 (z1.toNat : Int) (z2.toNat : Int) = (z3.toNat : Int)
                rw [u64_xor_nat _ _ z1.isLt z2.isLt, hz3, BitVec.toNat_xor]
              have HX6 : Hid (bits .xor .u64 (z3.toNat : Int) (z5.toNat : Int) = (z6.toNat : Int)) := by
                show bits .xor .u64 (z3.toNat : Int) (z5.toNat : Int) = (z6.toNat : Int)
                rw [u64_xor_nat _ _ z3.isLt z5.isLt, hz6, BitVec.toNat_xor]
              have HR1 : Hid (∀ wx, Calls Tryd.prog 23 #[.int .u64 z4.toNat, .int .i64 1] wx fun e w' => e = .returned (.int .u64 z5.toNat) ∧ Below wx.heap.size wx w') := by
                intro wx; rw [hz5]; exact rot_below z4 1 (by omega) wx
              have hz : z6 = at' (theta s) x y := by rw [theta_at s x y hxn hyn, hz6, hz3, hz5, hz1, hz2, hz4]
              obtain ⟨n, hn⟩ : ∃ n, n = turn x y := ⟨_, rfl⟩
              obtain ⟨z7, hz7⟩ : ∃ z, z = rot z6 n := ⟨_, rfl⟩
              obtain ⟨k, hk⟩ : ∃ k, k = y + 5 * ((2 * x + 3 * y) % 5) := ⟨_, rfl⟩
              have hkl : k < 25 := by omega
              have HZ : Hid ((fill 25 ord2 (fin2 s) (5 * x + y)).set k z7 = fill 25 ord2 (fin2 s) (5 * x + (y + 1))) := by
                show (fill 25 ord2 (fin2 s) (5 * x + y)).set k z7 = _
                rw [hz7, hz, hn, hk, fill2_set s x y hxn hyn]; rfl
              have hky : (y : Int) % 5 + 5 * ((2 * (x : Int) + 3 * (y : Int)) % 5) = (k : Int) := by
                have e1 : (2 * (x : Int) + 3 * (y : Int)) % 5 = (((2 * x + 3 * y) % 5 : Nat) : Int) := by simp
                have e2 : (y : Int) % 5 = (y : Int) := Int.emod_eq_of_lt (by omega) (by omega)
                rw [e1, e2, hk]; simp
              have HA5 : Hid (∀ wx, Calls Tryd.prog 21 #[.int .i64 y, .int .i64 (2 * (x : Int) + 3 * (y : Int))] wx fun e w' => e = .returned (.int .i64 k) ∧ wx = w') := by
                intro wx
                have h := at_any y (2 * (x : Int) + 3 * (y : Int)) wx
                rw [hky] at h; exact h
              have HT5 : Hid (∀ wx, Calls Tryd.prog 24 #[.int .i64 x, .int .i64 y] wx fun e w' => e = .returned (.int .i64 n) ∧ wx = w') := by
                intro wx
                have h := turnOf_any x y wx
                have e : turn ((x : Int) % 5).toNat ((y : Int) % 5).toNat = n := by
                  rw [hn, show ((x : Int) % 5).toNat = x by omega, show ((y : Int) % 5).toNat = y by omega]
                rw [e] at h; exact h
              have HR5 : Hid (∀ wx, Calls Tryd.prog 23 #[.int .u64 z6.toNat, .int .i64 n] wx fun e w' => e = .returned (.int .u64 z7.toNat) ∧ Below wx.heap.size wx w') := by
                intro wx; rw [hz7]; exact rot_below z6 n (by rw [hn]; exact turn_lt x y) wx
              clear hz1 hz2 hz3 hz4 hz5 hz6 hz7 hz hn hk hky
              go_wp2
              refine wp_lax_list (by kernel_rfl) (by kernel_rfl) (by kernel_rfl) ?_
              refine wpL_move (.int .i64 x) rfl (by kernel_rfl) (by kernel_rfl) (by kernel_rfl) (by kernel_rfl) ?_
              refine wpL_move (.int .i64 y) rfl (by kernel_rfl) (by kernel_rfl) (by kernel_rfl) (by kernel_rfl) ?_
              refine wpL_fn (.int .i64 i) [.int .i64 x, .int .i64 y] rfl (by kernel_rfl) (by kernel_rfl) (by kernel_rfl) (by kernel_rfl) (fun _ _ => by simp [go_sem]) (fun wx hwx => at_nat x y i hi wx) ?_
              refine wpL_run2 (x := .tmp 2) (y := .tmp 44) (.pointer (some ⟨bs, 0, none⟩)) (.int .i64 i) (.pointer (some ⟨bs, i, none⟩)) (by kernel_rfl) (by kernel_rfl) (by kernel_rfl) (by kernel_rfl) (by kernel_rfl) (by kernel_rfl) (fun wx ρ hwx h0 h1 hc => idx25 rfl i hil bs ρ wx h0 h1) ?_
              refine wpL_run1 (x := .tmp 45) (.pointer (some ⟨bs, i, none⟩)) (.int .u64 z1.toNat) (by kernel_rfl) (by kernel_rfl) (by kernel_rfl) (by kernel_rfl) (by kernel_rfl) (fun wx ρ hwx h0 hc => load64 rfl ρ (HC1.out wx hwx) h0) ?_
              refine wpL_move (.int .i64 x) rfl (by kernel_rfl) (by kernel_rfl) (by kernel_rfl) (by kernel_rfl) ?_
              refine wpL_run1 (x := .tmp 47) (.int .i64 x) (.int .i64 ((x : Int) - 1)) (by kernel_rfl) (by kernel_rfl) (by kernel_rfl) (by kernel_rfl) (by kernel_rfl) (fun wx ρ hwx h0 hc => sub_one rfl x hx10 ρ wx h0 hc) ?_
              refine wpL_fn (.int .i64 q4) [.int .i64 ((x : Int) - 1)] rfl (by kernel_rfl) (by kernel_rfl) (by kernel_rfl) (by kernel_rfl) (fun _ _ => by simp [go_sem]) (fun wx hwx => five_nat _ q4 hq4 wx) ?_
              refine wpL_run2 (x := .tmp 5) (y := .tmp 49) (.pointer (some ⟨bp, 0, none⟩)) (.int .i64 q4) (.pointer (some ⟨bp, q4, none⟩)) (by kernel_rfl) (by kernel_rfl) (by kernel_rfl) (by kernel_rfl) (by kernel_rfl) (by kernel_rfl) (fun wx ρ hwx h0 h1 hc => idx5 rfl q4 hq4l bp ρ wx h0 h1) ?_
              refine wpL_run1 (x := .tmp 50) (.pointer (some ⟨bp, q4, none⟩)) (.int .u64 z2.toNat) (by kernel_rfl) (by kernel_rfl) (by kernel_rfl) (by kernel_rfl) (by kernel_rfl) (fun wx ρ hwx h0 hc => load64 rfl ρ (HC2.out wx hwx) h0) ?_
              refine wpL_run2 (x := .tmp 46) (y := .tmp 51) (.int .u64 z1.toNat) (.int .u64 z2.toNat) (.int .u64 z3.toNat) (by kernel_rfl) (by kernel_rfl) (by kernel_rfl) (by kernel_rfl) (by kernel_rfl) (by kernel_rfl) (fun wx ρ hwx h0 h1 hc => by simp [h0, h1, hc, go_sem, HX3.out]) ?_
              refine wpL_move (.int .i64 x) rfl (by kernel_rfl) (by kernel_rfl) (by kernel_rfl) (by kernel_rfl) ?_
              refine wpL_run1 (x := .tmp 53) (.int .i64 x) (.int .i64 ((x + 1 : Nat) : Int)) (by kernel_rfl) (by kernel_rfl) (by kernel_rfl) (by kernel_rfl) (by kernel_rfl) (fun wx ρ hwx h0 hc => add_lit 1 rfl x hx10 (by decide) ρ wx h0 hc) ?_
              refine wpL_fn (.int .i64 q1) [.int .i64 ((x + 1 : Nat) : Int)] rfl (by kernel_rfl) (by kernel_rfl) (by kernel_rfl) (by kernel_rfl) (fun _ _ => by simp [go_sem]) (fun wx hwx => five_nat _ q1 hq1 wx) ?_
              refine wpL_run2 (x := .tmp 5) (y := .tmp 55) (.pointer (some ⟨bp, 0, none⟩)) (.int .i64 q1) (.pointer (some ⟨bp, q1, none⟩)) (by kernel_rfl) (by kernel_rfl) (by kernel_rfl) (by kernel_rfl) (by kernel_rfl) (by kernel_rfl) (fun wx ρ hwx h0 h1 hc => idx5 rfl q1 hq1l bp ρ wx h0 h1) ?_
              refine wpL_run1 (x := .tmp 56) (.pointer (some ⟨bp, q1, none⟩)) (.int .u64 z4.toNat) (by kernel_rfl) (by kernel_rfl) (by kernel_rfl) (by kernel_rfl) (by kernel_rfl) (fun wx ρ hwx h0 hc => load64 rfl ρ (HC4.out wx hwx) h0) ?_
              refine wpL_fn (.int .u64 z5.toNat) [.int .u64 z4.toNat, .int .i64 1] rfl (by kernel_rfl) (by kernel_rfl) (by kernel_rfl) (by kernel_rfl) (fun _ _ => by simp [go_sem]) (fun wx hwx => HR1.out wx) ?_
              refine wpL_run2 (x := .tmp 52) (y := .tmp 58) (.int .u64 z3.toNat) (.int .u64 z5.toNat) (.int .u64 z6.toNat) (by kernel_rfl) (by kernel_rfl) (by kernel_rfl) (by kernel_rfl) (by kernel_rfl) (by kernel_rfl) (fun wx ρ hwx h0 h1 hc => by simp [h0, h1, hc, go_sem, HX6.out]) ?_
              refine wpL_assign (.int .u64 z6.toNat) rfl (by kernel_rfl) (by kernel_rfl) (by kernel_rfl) (by kernel_rfl) ?_
              refine wpL_end (by kernel_rfl) (fun wd hwd => ?_)
              simp only [FinL, setL, List.set_cons_zero, List.set_cons_succ]
              have G2 := Lib.hid (G.out.later hwd)
              clear hwd HC1 HC2 HC4 HX3 HX6 HR1 hq4 hq1 hi
              go_wp2_with (fail)
              refine (HA5.out wd).mono ?_
              rintro e w' ⟨rfl, rfl⟩
              go_wp2_with (fail)
              refine (HT5.out wd).mono ?_
              rintro e w' ⟨rfl, rfl⟩
              go_wp2_with (fail)
              refine (HR5.out wd).mono ?_
              rintro e we ⟨rfl, hwe⟩
              have G3 := Lib.hid (G2.out.later hwe)
              obtain ⟨cp, fp⟩ := A64.cell G3.out 0 rfl k (by rw [fill_len]; exact hkl) rfl
              have PUT := Lib.hid (A64.store G3.out 0 rfl k z7)
              clear hwe
              go_wp2
              go_roundw
              case rel =>
                have h := PUT.out
                rw [HZ.out] at h
                exact ⟨y + 1, by omega, by go_num, h⟩
              case measure => simp [intOf]; omega
            · have hy : y = 5 := by omega
              have G2 : Hid (Own.St w.heap.size w wr [A64 ba 41 (fill 25 ord2 (fin2 s) (5 * (x + 1))), A64 bp 49 (pcell s 5 0), A64 br 41 (List.replicate 25 0), A64 bs 41 s]) := by
                have h := G.out
                rw [hy] at h
                exact h
              clear hy
              go_wp2
              go_roundw
              case rel => exact ⟨x + 1, by omega, by go_num, G2.out⟩
              case measure => simp [intOf]; omega
        · have hx : x = 5 := by omega
          have H2 : Hid (Own.St w.heap.size w wr [A64 ba 41 (rhopi (theta s)), A64 bp 49 (pcell s 5 0), A64 br 41 (List.replicate 25 0), A64 bs 41 s]) := by
            have h := H.out
            rw [hx, fill2_all] at h
            exact h
          clear hx
          obtain ⟨s3, hs3⟩ : ∃ s3, s3 = rhopi (theta s) := ⟨_, rfl⟩
          have hl3 : s3.length = 25 := by rw [hs3]; exact mk_len _
          rw [← hs3] at H2
          have HS3 := Lib.hid hs3
          have HL3 := Lib.hid hl3
          have HB := Lib.hid (A64.box H2.out 41 (List.replicate 25 0))
          obtain ⟨bb, hbb⟩ : ∃ b, b = wr.heap.size := ⟨_, rfl⟩
          rw [← hbb] at HB
          clear hs3 hl3
          go_wp2
          change Code.wp _ _ _ _ (wr.alloc (.cells ((List.replicate 25 (0 : KecM.W)).map u64V).toArray 41))
          rw [← hbb]
          generalize wr.alloc (.cells ((List.replicate 25 (0 : KecM.W)).map u64V).toArray 41) = W3 at HB ⊢
          clear hbb
          have HB2 : Hid (Own.St w.heap.size w W3 [A64 bb 41 (fill 25 ord3 (fin3 s3) (5 * 0)), A64 ba 41 s3, A64 bp 49 (pcell s 5 0), A64 br 41 (List.replicate 25 0), A64 bs 41 s]) := by
            rw [Nat.mul_zero, fill_zero]; exact HB.out
          clear HB
          go_loopw [13] (fun i wr => ∃ x : Nat, x ≤ 5 ∧ i = .int .i64 x ∧ Own.St w.heap.size w wr [A64 bb 41 (fill 25 ord3 (fin3 s3) (5 * x)), A64 ba 41 s3, A64 bp 49 (pcell s 5 0), A64 br 41 (List.replicate 25 0), A64 bs 41 s]) (fun i _ => 5 - (intOf i).toNat)
          case atStart => exact ⟨0, by omega, rfl, HB2.out⟩
          case round =>
            obtain ⟨x, hx5, rfl, H⟩ := hrel
            have H := Lib.hid H
            by_cases hx : (x : Int) < 5
            · obtain ⟨wo, hwo⟩ : ∃ wo, wo = wr := ⟨_, rfl⟩
              rw [← hwo] at H ⊢
              clear hwo
              go_wp2
              go_loopw [14] (fun i wr => ∃ y : Nat, y ≤ 5 ∧ i = .int .i64 y ∧ Own.St w.heap.size w wr [A64 bb 41 (fill 25 ord3 (fin3 s3) (5 * x + y)), A64 ba 41 s3, A64 bp 49 (pcell s 5 0), A64 br 41 (List.replicate 25 0), A64 bs 41 s]) (fun i _ => 5 - (intOf i).toNat)
              case atStart => exact ⟨0, by omega, rfl, H.out⟩
              case round =>
                obtain ⟨y, hy5, rfl, G⟩ := hrel
                have G := Lib.hid G
                by_cases hy : (y : Int) < 5
                · obtain ⟨i0, hi0⟩ : ∃ i, i = x % 5 + 5 * (y % 5) := ⟨_, rfl⟩
                  obtain ⟨i1, hi1⟩ : ∃ i, i = (x + 1) % 5 + 5 * (y % 5) := ⟨_, rfl⟩
                  obtain ⟨i2, hi2⟩ : ∃ i, i = (x + 2) % 5 + 5 * (y % 5) := ⟨_, rfl⟩
                  have hxn : x < 5 := by omega
                  have hyn : y < 5 := by omega
                  have hx10 : x ≤ 1000 := by omega
                  have hli0 : i0 < 25 := by omega
                  have hli1 : i1 < 25 := by omega
                  have hli2 : i2 < 25 := by omega
                  obtain ⟨z1, hz1⟩ : ∃ z, z = at' s3 x y := ⟨_, rfl⟩
                  obtain ⟨z2, hz2⟩ : ∃ z, z = at' s3 (x + 2) y := ⟨_, rfl⟩
                  obtain ⟨z3, hz3⟩ : ∃ z, z = at' s3 (x + 1) y := ⟨_, rfl⟩
                  obtain ⟨z4, hz4⟩ : ∃ z, z = z2 &&& ~~~ z3 := ⟨_, rfl⟩
                  obtain ⟨z5, hz5⟩ : ∃ z, z = z1 ^^^ z4 := ⟨_, rfl⟩
                  have HC1 : Hid (∀ wx, Below wr.heap.size wr wx → wx.cell? ⟨ba, i0, none⟩ = some (.int .u64 (z1.toNat : Int))) := fun wx hwx => cell_later (A64.cell G.out 1 rfl i0 (by rw [HL3.out]; exact hli0) (by rw [hz1, hi0]; rfl)).1 hwx
                  have HC2 : Hid (∀ wx, Below wr.heap.size wr wx → wx.cell? ⟨ba, i2, none⟩ = some (.int .u64 (z2.toNat : Int))) := fun wx hwx => cell_later (A64.cell G.out 1 rfl i2 (by rw [HL3.out]; exact hli2) (by rw [hz2, hi2]; rfl)).1 hwx
                  have HC3 : Hid (∀ wx, Below wr.heap.size wr wx → wx.cell? ⟨ba, i1, none⟩ = some (.int .u64 (z3.toNat : Int))) := fun wx hwx => cell_later (A64.cell G.out 1 rfl i1 (by rw [HL3.out]; exact hli1) (by rw [hz3, hi1]; rfl)).1 hwx
                  have HX4 : Hid (bits .andNot .u64 (z2.toNat : Int) (z3.toNat : Int) = (z4.toNat : Int)) := by
                    show bits .andNot .u64 (z2.toNat : Int) (z3.toNat : Int) = (z4.toNat : Int)
                    rw [u64_andNot_nat _ _ z2.isLt z3.isLt, hz4, BitVec.toNat_and, BitVec.toNat_not]
                  have HX5 : Hid (bits .xor .u64 (z1.toNat : Int) (z4.toNat : Int) = (z5.toNat : Int)) := by
                    show bits .xor .u64 (z1.toNat : Int) (z4.toNat : Int) = (z5.toNat : Int)
                    rw [u64_xor_nat _ _ z1.isLt z4.isLt, hz5, BitVec.toNat_xor]
                  have HZ : Hid ((fill 25 ord3 (fin3 s3) (5 * x + y)).set i0 z5 = fill 25 ord3 (fin3 s3) (5 * x + (y + 1))) := by
                    show (fill 25 ord3 (fin3 s3) (5 * x + y)).set i0 z5 = _
                    rw [hi0, Nat.mod_eq_of_lt hxn, Nat.mod_eq_of_lt hyn, hz5, hz4, hz3, hz2, hz1, fill3_set s3 x y hxn hyn]; rfl
                  clear hz1 hz2 hz3 hz4 hz5
                  go_wp2
                  refine wp_laxT_list 23 (by kernel_rfl) (by kernel_rfl) (by kernel_rfl) (by kernel_rfl) (by kernel_rfl) ?_
                  simp only [List.take_succ_cons, List.take_zero, List.drop_succ_cons, List.drop_zero]
                  refine wpL_move (.int .i64 x) rfl (by kernel_rfl) (by kernel_rfl) (by kernel_rfl) (by kernel_rfl) ?_
                  refine wpL_move (.int .i64 y) rfl (by kernel_rfl) (by kernel_rfl) (by kernel_rfl) (by kernel_rfl) ?_
                  refine wpL_fn (.int .i64 i0) [.int .i64 x, .int .i64 y] rfl (by kernel_rfl) (by kernel_rfl) (by kernel_rfl) (by kernel_rfl) (fun _ _ => by simp [go_sem]) (fun wx hwx => at_nat x y i0 hi0 wx) ?_
                  refine wpL_move (.int .i64 x) rfl (by kernel_rfl) (by kernel_rfl) (by kernel_rfl) (by kernel_rfl) ?_
                  refine wpL_move (.int .i64 y) rfl (by kernel_rfl) (by kernel_rfl) (by kernel_rfl) (by kernel_rfl) ?_
                  refine wpL_fn (.int .i64 i0) [.int .i64 x, .int .i64 y] rfl (by kernel_rfl) (by kernel_rfl) (by kernel_rfl) (by kernel_rfl) (fun _ _ => by simp [go_sem]) (fun wx hwx => at_nat x y i0 hi0 wx) ?_
                  refine wpL_run2 (x := .tmp 8) (y := .tmp 86) (.pointer (some ⟨ba, 0, none⟩)) (.int .i64 i0) (.pointer (some ⟨ba, i0, none⟩)) (by kernel_rfl) (by kernel_rfl) (by kernel_rfl) (by kernel_rfl) (by kernel_rfl) (by kernel_rfl) (fun wx ρ hwx h0 h1 hc => idx25 rfl i0 hli0 ba ρ wx h0 h1) ?_
                  refine wpL_run1 (x := .tmp 87) (.pointer (some ⟨ba, i0, none⟩)) (.int .u64 z1.toNat) (by kernel_rfl) (by kernel_rfl) (by kernel_rfl) (by kernel_rfl) (by kernel_rfl) (fun wx ρ hwx h0 hc => load64 rfl ρ (HC1.out wx hwx) h0) ?_
                  refine wpL_move (.int .i64 x) rfl (by kernel_rfl) (by kernel_rfl) (by kernel_rfl) (by kernel_rfl) ?_
                  refine wpL_run1 (x := .tmp 89) (.int .i64 x) (.int .i64 ((x + 2 : Nat) : Int)) (by kernel_rfl) (by kernel_rfl) (by kernel_rfl) (by kernel_rfl) (by kernel_rfl) (fun wx ρ hwx h0 hc => add_lit 2 rfl x hx10 (by decide) ρ wx h0 hc) ?_
                  refine wpL_move (.int .i64 y) rfl (by kernel_rfl) (by kernel_rfl) (by kernel_rfl) (by kernel_rfl) ?_
                  refine wpL_fn (.int .i64 i2) [.int .i64 ((x + 2 : Nat) : Int), .int .i64 y] rfl (by kernel_rfl) (by kernel_rfl) (by kernel_rfl) (by kernel_rfl) (fun _ _ => by simp [go_sem]) (fun wx hwx => at_nat (x + 2) y i2 hi2 wx) ?_
                  refine wpL_run2 (x := .tmp 8) (y := .tmp 92) (.pointer (some ⟨ba, 0, none⟩)) (.int .i64 i2) (.pointer (some ⟨ba, i2, none⟩)) (by kernel_rfl) (by kernel_rfl) (by kernel_rfl) (by kernel_rfl) (by kernel_rfl) (by kernel_rfl) (fun wx ρ hwx h0 h1 hc => idx25 rfl i2 hli2 ba ρ wx h0 h1) ?_
                  refine wpL_run1 (x := .tmp 93) (.pointer (some ⟨ba, i2, none⟩)) (.int .u64 z2.toNat) (by kernel_rfl) (by kernel_rfl) (by kernel_rfl) (by kernel_rfl) (by kernel_rfl) (fun wx ρ hwx h0 hc => load64 rfl ρ (HC2.out wx hwx) h0) ?_
                  refine wpL_move (.int .i64 x) rfl (by kernel_rfl) (by kernel_rfl) (by kernel_rfl) (by kernel_rfl) ?_
                  refine wpL_run1 (x := .tmp 95) (.int .i64 x) (.int .i64 ((x + 1 : Nat) : Int)) (by kernel_rfl) (by kernel_rfl) (by kernel_rfl) (by kernel_rfl) (by kernel_rfl) (fun wx ρ hwx h0 hc => add_lit 1 rfl x hx10 (by decide) ρ wx h0 hc) ?_
                  refine wpL_move (.int .i64 y) rfl (by kernel_rfl) (by kernel_rfl) (by kernel_rfl) (by kernel_rfl) ?_
                  refine wpL_fn (.int .i64 i1) [.int .i64 ((x + 1 : Nat) : Int), .int .i64 y] rfl (by kernel_rfl) (by kernel_rfl) (by kernel_rfl) (by kernel_rfl) (fun _ _ => by simp [go_sem]) (fun wx hwx => at_nat (x + 1) y i1 hi1 wx) ?_
                  refine wpL_run2 (x := .tmp 8) (y := .tmp 98) (.pointer (some ⟨ba, 0, none⟩)) (.int .i64 i1) (.pointer (some ⟨ba, i1, none⟩)) (by kernel_rfl) (by kernel_rfl) (by kernel_rfl) (by kernel_rfl) (by kernel_rfl) (by kernel_rfl) (fun wx ρ hwx h0 h1 hc => idx25 rfl i1 hli1 ba ρ wx h0 h1) ?_
                  refine wpL_run1 (x := .tmp 99) (.pointer (some ⟨ba, i1, none⟩)) (.int .u64 z3.toNat) (by kernel_rfl) (by kernel_rfl) (by kernel_rfl) (by kernel_rfl) (by kernel_rfl) (fun wx ρ hwx h0 hc => load64 rfl ρ (HC3.out wx hwx) h0) ?_
                  refine wpL_run2 (x := .tmp 94) (y := .tmp 100) (.int .u64 z2.toNat) (.int .u64 z3.toNat) (.int .u64 z4.toNat) (by kernel_rfl) (by kernel_rfl) (by kernel_rfl) (by kernel_rfl) (by kernel_rfl) (by kernel_rfl) (fun wx ρ hwx h0 h1 hc => by simp [h0, h1, hc, go_sem, HX4.out]) ?_
                  refine wpL_run2 (x := .tmp 88) (y := .tmp 101) (.int .u64 z1.toNat) (.int .u64 z4.toNat) (.int .u64 z5.toNat) (by kernel_rfl) (by kernel_rfl) (by kernel_rfl) (by kernel_rfl) (by kernel_rfl) (by kernel_rfl) (fun wx ρ hwx h0 h1 hc => by simp [h0, h1, hc, go_sem, HX5.out]) ?_
                  refine wpL_run2 (x := .tmp 12) (y := .tmp 83) (.pointer (some ⟨bb, 0, none⟩)) (.int .i64 i0) (.pointer (some ⟨bb, i0, none⟩)) (by kernel_rfl) (by kernel_rfl) (by kernel_rfl) (by kernel_rfl) (by kernel_rfl) (by kernel_rfl) (fun wx ρ hwx h0 h1 hc => idx25 rfl i0 hli0 bb ρ wx h0 h1) ?_
                  refine wpL_end (by kernel_rfl) (fun wd hwd => ?_)
                  simp only [FinL, setL, List.set_cons_zero, List.set_cons_succ]
                  have G2 := Lib.hid (G.out.later hwd)
                  obtain ⟨cp, fp⟩ := A64.cell G2.out 0 rfl i0 (by rw [fill_len]; exact hli0) rfl
                  have PUT := Lib.hid (A64.store G2.out 0 rfl i0 z5)
                  clear hwd HC1 HC2 HC3 HX4 HX5 hi0 hi1 hi2
                  go_wp2
                  go_roundw
                  case rel =>
                    have h := PUT.out
                    rw [HZ.out] at h
                    exact ⟨y + 1, by omega, by go_num, h⟩
                  case measure => simp [intOf]; omega
                · have hy : y = 5 := by omega
                  have G2 : Hid (Own.St w.heap.size w wr [A64 bb 41 (fill 25 ord3 (fin3 s3) (5 * (x + 1))), A64 ba 41 s3, A64 bp 49 (pcell s 5 0), A64 br 41 (List.replicate 25 0), A64 bs 41 s]) := by
                    have h := G.out
                    rw [hy] at h
                    exact h
                  clear hy
                  go_wp2
                  go_roundw
                  case rel => exact ⟨x + 1, by omega, by go_num, G2.out⟩
                  case measure => simp [intOf]; omega
            · have hx : x = 5 := by omega
              obtain ⟨s4, hs4⟩ : ∃ s4, s4 = chi s3 := ⟨_, rfl⟩
              have hl4 : s4.length = 25 := by rw [hs4]; exact mk_len _
              have H4 : Hid (Own.St w.heap.size w wr [A64 bb 41 s4, A64 ba 41 s3, A64 bp 49 (pcell s 5 0), A64 br 41 (List.replicate 25 0), A64 bs 41 s]) := by
                have h := H.out
                rw [hx, fill3_all, ← hs4] at h
                exact h
              obtain ⟨z1, hz1⟩ : ∃ z, z = s4.getD 0 0 := ⟨_, rfl⟩
              obtain ⟨z2, hz2⟩ : ∃ z, z = markOf round := ⟨_, rfl⟩
              obtain ⟨z3, hz3⟩ : ∃ z, z = z1 ^^^ z2 := ⟨_, rfl⟩
              have HC1 : Hid (∀ wx, Below wr.heap.size wr wx → wx.cell? ⟨bb, 0, none⟩ = some (.int .u64 (z1.toNat : Int))) := fun wx hwx => cell_later (A64.cell H4.out 0 rfl 0 (by omega) hz1.symm).1 hwx
              have HMK : Hid (∀ wx, Calls Tryd.prog 25 #[.int .i64 round] wx fun e w' => e = .returned (.int .u64 z2.toNat) ∧ Below wx.heap.size wx w') := by
                intro wx
                have h := markOf_any round h0 h1 wx
                rw [← hz2] at h
                exact h.mono fun _ _ h => ⟨h.1, h.2 ▸ Below.refl _ _⟩
              have HX3 : Hid (bits .xor .u64 (z1.toNat : Int) (z2.toNat : Int) = (z3.toNat : Int)) := by
                show bits .xor .u64 (z1.toNat : Int) (z2.toNat : Int) = (z3.toNat : Int)
                rw [u64_xor_nat _ _ z1.isLt z2.isLt, hz3, BitVec.toNat_xor]
              have HZ : Hid (s4.set 0 z3 = roundM (markOf round) s) := by
                show s4.set 0 z3 = roundM (markOf round) s
                rw [hz3, hz1, hz2, hs4, HS3.out]; rfl
              have HL4 := Lib.hid hl4
              clear hx hs4 hl4 hz1 hz2 hz3
              go_wp2
              refine wp_laxT_list 6 (by kernel_rfl) (by kernel_rfl) (by kernel_rfl) (by kernel_rfl) (by kernel_rfl) ?_
              simp only [List.take_succ_cons, List.take_zero, List.drop_succ_cons, List.drop_zero]
              refine wpL_run1 (x := .tmp 12) (.pointer (some ⟨bb, 0, none⟩)) (.pointer (some ⟨bb, 0, none⟩)) (by kernel_rfl) (by kernel_rfl) (by kernel_rfl) (by kernel_rfl) (by kernel_rfl) (fun wx ρ hwx h0 hc => by simp [go_sem, h0, hc]) ?_
              refine wpL_run1 (x := .tmp 104) (.pointer (some ⟨bb, 0, none⟩)) (.int .u64 z1.toNat) (by kernel_rfl) (by kernel_rfl) (by kernel_rfl) (by kernel_rfl) (by kernel_rfl) (fun wx ρ hwx h0 hc => load64 rfl ρ (HC1.out wx hwx) h0) ?_
              refine wpL_move (.int .i64 round) rfl (by kernel_rfl) (by kernel_rfl) (by kernel_rfl) (by kernel_rfl) ?_
              refine wpL_fn (.int .u64 z2.toNat) [.int .i64 round] rfl (by kernel_rfl) (by kernel_rfl) (by kernel_rfl) (by kernel_rfl) (fun _ _ => by simp [go_sem]) (fun wx hwx => HMK.out wx) ?_
              refine wpL_run2 (x := .tmp 105) (y := .tmp 107) (.int .u64 z1.toNat) (.int .u64 z2.toNat) (.int .u64 z3.toNat) (by kernel_rfl) (by kernel_rfl) (by kernel_rfl) (by kernel_rfl) (by kernel_rfl) (by kernel_rfl) (fun wx ρ hwx h0 h1 hc => by simp [h0, h1, hc, go_sem, HX3.out]) ?_
              refine wpL_run1 (x := .tmp 12) (.pointer (some ⟨bb, 0, none⟩)) (.pointer (some ⟨bb, 0, none⟩)) (by kernel_rfl) (by kernel_rfl) (by kernel_rfl) (by kernel_rfl) (by kernel_rfl) (fun wx ρ hwx h0 hc => by simp [go_sem, h0, hc]) ?_
              refine wpL_end (by kernel_rfl) (fun wd hwd => ?_)
              simp only [FinL, setL, List.set_cons_zero, List.set_cons_succ]
              have G2 := Lib.hid (H4.out.later hwd)
              obtain ⟨cp, fp⟩ := A64.cell G2.out 0 rfl 0 (by rw [HL4.out]; omega) rfl
              have PUT : Hid (Own.St w.heap.size w (wd.setCell ⟨bb, 0, none⟩ (.int .u64 (z3.toNat : Int))) [A64 bb 41 (roundM (markOf round) s), A64 ba 41 s3, A64 bp 49 (pcell s 5 0), A64 br 41 (List.replicate 25 0), A64 bs 41 s]) := by
                have h := A64.store G2.out 0 rfl 0 z3
                rw [HZ.out] at h
                exact h
              clear hwd HC1 HMK HX3
              obtain ⟨rs, hrs⟩ : ∃ r, r = roundM (markOf round) s := ⟨_, rfl⟩
              have LR : Hid (rs.length = 25) := by rw [hrs]; exact roundM_len _ _
              rw [← hrs] at PUT
              have HRS := Lib.hid hrs
              clear hrs
              have LAST := Lib.hid (A64.setAll PUT.out 3 rfl rs (by rw [LR.out]; rfl))
              have ROW := Lib.hid (A64.row PUT.out 0 rfl)
              have THERE := Lib.hid (A64.there PUT.out 3 rfl rs (by rw [LR.out]; rfl))
              have INFO := Lib.hid (info_lanes rs LR.out)
              have ONE := Lib.hid (one_cells rs)
              go_wp2_with (first
                | (refine wpList_load_row rfl 41 (.tmp 12) rfl bb rfl 41 _ (0, 0) _ ROW.out Tryd.underlying41 rfl INFO.out ?_)
                | (refine wpList_store_mid rfl 41 (.tmp 4) (.tmp 110) rfl br 0 (rs.map u64V).toArray rfl rfl THERE.out INFO.out ONE.out ?_))
              have END := Lib.hid (A64.row LAST.out 3 rfl)
              refine bodyPost_ret (results_cell_row rfl _ _ br 41 _ (0, 0) _ rfl END.out Tryd.underlying41 rfl INFO.out) rfl ?_
              refine ⟨?_, LAST.out.below⟩
              rw [HRS.out]

end Kec
end Go.Proofs.YtfbpajiddkehnaaDoor
