/- Merged: KecT KecU KecP KecV SpoR SpoK SpoS SpoT SpoQ SpoU KecG LawSpoC LawTop TopD -/
import Derived.Lib.SlBytesConst
import Derived.Test.YtahjjcmeocibbaaGreatDoorRows
import Derived.LaidMore
import Derived.Lib.LaidTab
import Derived.Test.YtahjjcmeocibbaaGreatDoorQ1
import Derived.Test.YtahjjcmeocibbaaGreatDoorQ2
import Derived.Test.YtahjjcmeocibbaaGreatDoorQ3
import Derived.Test.YtahjjcmeocibbaaGreatDoorQ4
import Derived.Test.YtahjjcmeocibbaaGreatDoorQ5
import Derived.Test.YtahjjcmeocibbaaGreatDoorQ7
set_option linter.unusedVariables false
section
namespace Go.Proofs.YtahjjcmeocibbaaGreatDoor
open Go.RowKit Go.Own
namespace Kec
open Go.KecM
theorem run_index_words (s : KecM.St) (hs : s.length = 25) (i : Nat) (hi : i < 25) {v : W} (hv : s.getD i 0 = v) (w : World) : (Instr.index 129 (.agg (s.map u64V).toArray) (.int .i64 (i : Int))).run Tryz.prog w = .ok (.int .u64 (v.toNat : Int)) w := by
 have hse : (sizeOf 45).run Tryz.prog w = .ok 1 w := by kernel_rfl
 have ha : (isAgg 45).run Tryz.prog w = .ok false w := by kernel_rfl
 have h0 : (0 : Int) <= (i : Int) /\ (i : Int) < (25 : Nat) := by omega
 have hl : i < s.length := by omega
 unfold Instr.index
 simp only [Sem.run_bind, asIntOf, Sem.run_pure, Result.andThen_ok, run_underlying Tryz.underlying129]
 rw [if_pos h0]
 simp only [Sem.run_bind, hse, Result.andThen_ok, Nat.mul_one, Int.toNat_natCast]
 unfold part
 simp only [Sem.run_bind, ha, Result.andThen_ok]
 have hv' : s[i] = v := by simpa [hl] using hv
 simp [hl, go_sem, u64V, hv']
theorem wpList_index_words {ops : Array Oper} {rest : List Oper} {o : Oper} {a : Act} {w : World} {Q : Exit -> Act -> World -> Prop} (hgd : o.guard = none) (x y : Operand) (ho : o.op = .index 129 x y)
 (s : KecM.St) (hs : s.length = 25) (hx : a.eval x = .agg (s.map u64V).toArray) (i : Nat) (hi : i < 25) (hy : a.eval y = .int .i64 (i : Int)) {v : W} (hv : s.getD i 0 = v)
 (h : wpList Tryz.prog ops Q rest (a.put o.dst (.int .u64 (v.toNat : Int))) w) : wpList Tryz.prog ops Q (o :: rest) a w := by
 refine wpList_plain hgd fun _ hK => ?_
 have := run_index_words s hs i hi hv w
 unfold Oper.wp execOp
 simp only [ho, hx, hy, Sem.run_bind, this, Result.andThen_ok, Sem.run_pure]
 exact hK _ _ h
theorem sub_lit1 {o : Oper} {t : Tmp} (ho : o.op = .binOp .sub 3 (.tmp t) (.const (.int .i64 1)) 3) (k : Nat) (hk : k <= 1000) : ∀ (ρ : Operand -> Value) w, ρ (.tmp t) = .int .i64 ((k + 1 : Nat) : Int) -> (∀ c, ρ (.const c) = c) -> (execOp ρ o).run Tryz.prog w = .ok (.value (.int .i64 (k : Int))) w := by
 intro ρ w h0 hc
 have e : IntKind.i64.wrap (((k + 1 : Nat) : Int) - 1) = (k : Int) := (IntWalk.i64_in _ (by omega)).trans (by omega)
 simp only [execOp, ho, h0, hc]
 generalize ((k + 1 : Nat) : Int) = m at e
 simp [go_sem, e]
theorem rem_five {o : Oper} {t : Tmp} (ho : o.op = .binOp .rem 3 (.tmp t) (.const (.int .i64 5)) 3) (k : Nat) (hk : k <= 1000) {q : Nat} (hq : q = k % 5) : ∀ (ρ : Operand -> Value) w, ρ (.tmp t) = .int .i64 (k : Int) -> (∀ c, ρ (.const c) = c) -> (execOp ρ o).run Tryz.prog w = .ok (.value (.int .i64 (q : Int))) w := by
 intro ρ w h0 hc
 have e1 : (k : Int).tmod 5 = (q : Int) := by rw [Int.tmod_eq_emod_of_nonneg (by omega)]; omega
 have e : IntKind.i64.wrap (q : Int) = (q : Int) := IntWalk.i64_in _ (by omega)
 simp only [execOp, ho, h0, hc]
 generalize (k : Int) = m at e1
 simp [go_sem, e1]
theorem add_litN (c : Nat) {o : Oper} {t : Tmp} (ho : o.op = .binOp .add 3 (.tmp t) (.const (.int .i64 (c : Int))) 3) (k : Nat) (hk : k <= 1000) (hcl : c <= 1000) {m : Nat} (hm : m = k + c) : ∀ (ρ : Operand -> Value) w, ρ (.tmp t) = .int .i64 k -> (∀ c, ρ (.const c) = c) -> (execOp ρ o).run Tryz.prog w = .ok (.value (.int .i64 (m : Int))) w := by
 rw [hm]; exact add_lit c ho k hk hcl
theorem sub_litN {o : Oper} {t : Tmp} (ho : o.op = .binOp .sub 3 (.tmp t) (.const (.int .i64 1)) 3) (k : Nat) (hk : k <= 1000) {m : Nat} (hm : m = k + 1) : ∀ (ρ : Operand -> Value) w, ρ (.tmp t) = .int .i64 (m : Int) -> (∀ c, ρ (.const c) = c) -> (execOp ρ o).run Tryz.prog w = .ok (.value (.int .i64 (k : Int))) w := by
 rw [hm]; exact sub_lit1 ho k hk
theorem rotK_below (x : W) (n : Nat) (hn : n < 64) (w : World) : Calls Tryz.prog 137 #[.int .u64 x.toNat, .int .i64 n] w fun e w' => e = .returned (.int .u64 (rot x n).toNat) /\ Below w.heap.size w w' :=
 (rotK_any x n hn w).mono fun _ _ h => ⟨h.1, h.2 ▸ Below.refl _ _⟩
theorem atK_below (x y i : Nat) (hx : x <= 1000) (hy : y <= 1000) (hi : i = x % 5 + 5 * (y % 5)) (w : World) : Calls Tryz.prog 138 #[.int .i64 x, .int .i64 y] w fun e w' => e = .returned (.int .i64 i) /\ Below w.heap.size w w' :=
 (atK_nat x y i hx hy hi w).mono fun _ _ h => ⟨h.1, h.2 ▸ Below.refl _ _⟩
set_option maxHeartbeats 4000000 in
theorem spread_any (s : KecM.St) (hs : s.length = 25) (w : World) :
 Calls Tryz.prog 122 #[.agg (s.map u64V).toArray] w fun e w' => e = .returned (.agg ((theta s).map u64V).toArray) /\ Below w.heap.size w w' := by
 have HSL := Lib.hid hs
 clear hs
 have INFO := Lib.hid (info_lanes s HSL.out)
 go_enter Tryz.func122, Tryz.ntmps122
 have hst := A64.box (A64.box (A64.box (Own.St.start w) 129 s) 129 (List.replicate 25 0)) 211 (List.replicate 5 0)
 simp only [size_alloc'] at hst
 have ROW := Lib.hid (A64.row hst 2 rfl)
 have HST0 := Lib.hid hst
 clear hst
 go_wp2_with (refine wpList_load_row rfl 129 (.tmp 1) rfl w.heap.size rfl 129 _ (0, 0) _ ROW.out Tryz.underlying129 rfl INFO.out ?_)
 clear ROW
 change Code.wp _ _ _ _ (((w.alloc (.cells (s.map u64V).toArray 129)).alloc (.cells ((List.replicate 25 (0 : KecM.W)).map u64V).toArray 129)).alloc (.cells ((List.replicate 5 (0 : KecM.W)).map u64V).toArray 211))
 generalize ((w.alloc (.cells (s.map u64V).toArray 129)).alloc (.cells ((List.replicate 25 (0 : KecM.W)).map u64V).toArray 129)).alloc (.cells ((List.replicate 5 (0 : KecM.W)).map u64V).toArray 211) = W1 at HST0 ⊢
 obtain ⟨bs, hbs⟩ : ∃ b, b = w.heap.size := ⟨_, rfl⟩
 obtain ⟨br, hbr⟩ : ∃ b, b = w.heap.size + 1 := ⟨_, rfl⟩
 obtain ⟨bp, hbp⟩ : ∃ b, b = w.heap.size + 1 + 1 := ⟨_, rfl⟩
 rw [<- hbp, <- hbr] at HST0 ⊢
 have HST : Hid (Own.St w.heap.size w W1 [A64 bp 211 (pacc s 0), A64 br 129 (List.replicate 25 0), A64 bs 129 s]) := by rw [hbs]; exact HST0.out
 rw [<- hbs]
 clear HST0 hbs hbr hbp
 go_loopw [10] (fun i wr => ∃ x : Nat, x <= 25 /\ i = .int .i64 x /\ Own.St w.heap.size w wr [A64 bp 211 (pacc s x), A64 br 129 (List.replicate 25 0), A64 bs 129 s]) (fun i _ => 25 - (intOf i).toNat)
 case atStart => exact ⟨0, by omega, rfl, HST.out⟩
 case round =>
  obtain ⟨x, hx25, rfl, H⟩ := hrel
  have H := Lib.hid H
  by_cases hx : (x : Int) < 25
  · have hxn : x < 25 := by omega
    obtain ⟨k, hk⟩ : ∃ k, k = x % 5 := ⟨_, rfl⟩
    have hki : (x : Int) % 5 = (k : Int) := by omega
    have hk5 : k < 5 := by omega
    have hk5i : (k : Int) < 5 := by omega
    obtain ⟨z1, hz1⟩ : ∃ z, z = s.getD x 0 := ⟨_, rfl⟩
    obtain ⟨z2, hz2⟩ : ∃ z, z = (pacc s x).getD k 0 := ⟨_, rfl⟩
    obtain ⟨z3, hz3⟩ : ∃ z, z = z2 ^^^ z1 := ⟨_, rfl⟩
    have HZ1 : Hid (s.getD x 0 = z1) := hz1.symm
    have HX : Hid (bits .xor .u64 (z2.toNat : Int) (z1.toNat : Int) = (z3.toNat : Int)) := by
     show bits .xor .u64 (z2.toNat : Int) (z1.toNat : Int) = (z3.toNat : Int)
     rw [u64_xor_nat _ _ z2.isLt z1.isLt, hz3, BitVec.toNat_xor]
    have hxor : bits .xor .u64 (z2.toNat : Int) (z1.toNat : Int) = (z3.toNat : Int) := HX.out
    obtain ⟨cp, fp⟩ := A64.cell H.out 0 rfl k (by rw [pacc_len]; exact hk5) hz2.symm
    have PUT : Hid (Own.St w.heap.size w (wr.setCell ⟨bp, k, none⟩ (.int .u64 (z3.toNat : Int))) [A64 bp 211 (pacc s (x + 1)), A64 br 129 (List.replicate 25 0), A64 bs 129 s]) := by
     have h := A64.store H.out 0 rfl k z3
     have e : (pacc s x).set k z3 = pacc s (x + 1) := by rw [hz3, hz2, hz1, hk]; rfl
     rw [e] at h
     exact h
    clear hz1 hz2 hz3 hk HX
    go_wp2_with (refine wpList_index_words rfl (.tmp 9) (.tmp 10) rfl s HSL.out rfl x hxn rfl HZ1.out ?_)
    go_roundw
    case rel => exact ⟨x + 1, by omega, by go_num, PUT.out⟩
    case measure => simp [intOf]; omega
  · have H0 : Hid (Own.St w.heap.size w wr [A64 bp 211 (pacc s 25), A64 br 129 (List.replicate 25 0), A64 bs 129 (thst s (5 * 0))]) := by
     have h := H.out
     rw [show x = 25 by omega] at h
     rw [Nat.mul_zero, thst_zero s HSL.out]
     exact h
    obtain ⟨wo, hwo⟩ : ∃ wo, wo = wr := ⟨_, rfl⟩
    rw [<- hwo] at H0 ⊢
    clear hwo H hx25
    go_wp2
    go_loopw [22] (fun i wr => ∃ x : Nat, x <= 5 /\ i = .int .i64 x /\ Own.St w.heap.size w wr [A64 bp 211 (pacc s 25), A64 br 129 (List.replicate 25 0), A64 bs 129 (thst s (5 * x))]) (fun i _ => 5 - (intOf i).toNat)
    case atStart => exact ⟨0, by omega, rfl, H0.out⟩
    case round =>
     obtain ⟨x, hx5, rfl, H⟩ := hrel
     have H := Lib.hid H
     by_cases hx : (x : Int) < 5
     · have hxn : x < 5 := by omega
       have hx10 : x <= 1000 := by omega
       obtain ⟨n5, hn5⟩ : ∃ n, n = x + 5 := ⟨_, rfl⟩
       obtain ⟨n4, hn4⟩ : ∃ n, n = x + 4 := ⟨_, rfl⟩
       obtain ⟨n1, hn1⟩ : ∃ n, n = x + 1 := ⟨_, rfl⟩
       obtain ⟨q4, hq4⟩ : ∃ q, q = (x + 4) % 5 := ⟨_, rfl⟩
       obtain ⟨q1, hq1⟩ : ∃ q, q = (x + 1) % 5 := ⟨_, rfl⟩
       have hq4l : q4 < 5 := by omega
       have hq1l : q1 < 5 := by omega
       obtain ⟨z1, hz1⟩ : ∃ z, z = par s (x + 4) := ⟨_, rfl⟩
       obtain ⟨z2, hz2⟩ : ∃ z, z = par s (x + 1) := ⟨_, rfl⟩
       obtain ⟨z3, hz3⟩ : ∃ z, z = rot z2 1 := ⟨_, rfl⟩
       obtain ⟨z4, hz4⟩ : ∃ z, z = z1 ^^^ z3 := ⟨_, rfl⟩
       have HC1 : Hid (∀ wx, Below wr.heap.size wr wx -> wx.cell? ⟨bp, q4, none⟩ = some (.int .u64 (z1.toNat : Int))) := fun wx hwx => cell_later (A64.cell H.out 0 rfl q4 (by rw [pacc_len]; exact hq4l) (by rw [pacc_get s q4 hq4l, hz1, <- par_mod s (x + 4), hq4])).1 hwx
       have HC2 : Hid (∀ wx, Below wr.heap.size wr wx -> wx.cell? ⟨bp, q1, none⟩ = some (.int .u64 (z2.toNat : Int))) := fun wx hwx => cell_later (A64.cell H.out 0 rfl q1 (by rw [pacc_len]; exact hq1l) (by rw [pacc_get s q1 hq1l, hz2, <- par_mod s (x + 1), hq1])).1 hwx
       have HR1 : Hid (∀ wx, Calls Tryz.prog 137 #[.int .u64 z2.toNat, .int .i64 1] wx fun e w' => e = .returned (.int .u64 z3.toNat) /\ Below wx.heap.size wx w') := by
        intro wx; rw [hz3]; exact rotK_below z2 1 (by omega) wx
       have HX4 : Hid (bits .xor .u64 (z1.toNat : Int) (z3.toNat : Int) = (z4.toNat : Int)) := by
        show bits .xor .u64 (z1.toNat : Int) (z3.toNat : Int) = (z4.toNat : Int)
        rw [u64_xor_nat _ _ z1.isLt z3.isLt, hz4, BitVec.toNat_xor]
       have HZ4 : Hid (z4 = par s (x + 4) ^^^ rot (par s (x + 1)) 1) := by show z4 = _; rw [hz4, hz3, hz2, hz1]
       clear hz1 hz2 hz3 hz4
       go_wp2
       refine lxX ?_; refine lxM (.int .i64 x) rfl ?_; refine lxR (.tmp 25) (.int .i64 x) (.int .i64 (n5 : Int)) (fun wx ρ hwx h0 hc => add_litN 5 rfl x hx10 (by decide) hn5 ρ wx h0 hc) ?_; refine lxR (.tmp 26) (.int .i64 (n5 : Int)) (.int .i64 (n4 : Int)) (fun wx ρ hwx h0 hc => sub_litN rfl n4 (by omega) (by omega) ρ wx h0 hc) ?_; refine lxR (.tmp 27) (.int .i64 (n4 : Int)) (.int .i64 (q4 : Int)) (fun wx ρ hwx h0 hc => rem_five rfl n4 (by omega) (by omega) ρ wx h0 hc) ?_; refine lxT (.tmp 3) (.tmp 28) (.pointer (some ⟨bp, 0, none⟩)) (.int .i64 q4) (.pointer (some ⟨bp, q4, none⟩)) (fun wx ρ hwx h0 h1 hc => idx5 rfl q4 hq4l bp ρ wx h0 h1) ?_; refine lxR (.tmp 29) (.pointer (some ⟨bp, q4, none⟩)) (.int .u64 z1.toNat) (fun wx ρ hwx h0 hc => load64 rfl ρ (HC1.out wx hwx) h0) ?_; refine lxM (.int .i64 x) rfl ?_; refine lxR (.tmp 31) (.int .i64 x) (.int .i64 (n1 : Int)) (fun wx ρ hwx h0 hc => add_litN 1 rfl x hx10 (by decide) hn1 ρ wx h0 hc) ?_; refine lxR (.tmp 32) (.int .i64 (n1 : Int)) (.int .i64 (q1 : Int)) (fun wx ρ hwx h0 hc => rem_five rfl n1 (by omega) (by omega) ρ wx h0 hc) ?_; refine lxT (.tmp 3) (.tmp 33) (.pointer (some ⟨bp, 0, none⟩)) (.int .i64 q1) (.pointer (some ⟨bp, q1, none⟩)) (fun wx ρ hwx h0 h1 hc => idx5 rfl q1 hq1l bp ρ wx h0 h1) ?_; refine lxR (.tmp 34) (.pointer (some ⟨bp, q1, none⟩)) (.int .u64 z2.toNat) (fun wx ρ hwx h0 hc => load64 rfl ρ (HC2.out wx hwx) h0) ?_
       refine wpL_fn (.int .u64 z3.toNat) [.int .u64 z2.toNat, .int .i64 1] rfl (by kernel_rfl) (by kernel_rfl) (by kernel_rfl) (by kernel_rfl) (fun _ _ => by simp [go_sem]) (fun wx hwx => HR1.out wx) ?_
       refine lxT (.tmp 30) (.tmp 36) (.int .u64 z1.toNat) (.int .u64 z3.toNat) (.int .u64 z4.toNat) (fun wx ρ hwx h0 h1 hc => by simp [h0, h1, go_sem, HX4.out]) ?_
       refine wpL_assign (.int .u64 z4.toNat) rfl (by kernel_rfl) (by kernel_rfl) (by kernel_rfl) (by kernel_rfl) ?_
       refine wpL_end (by kernel_rfl) (fun wd hwd => ?_)
       simp only [FinL, setL, List.set_cons_zero, List.set_cons_succ]
       have G2 : Hid (Own.St w.heap.size w wd [A64 bp 211 (pacc s 25), A64 br 129 (List.replicate 25 0), A64 bs 129 (thst s (5 * x + 0))]) := H.out.later hwd
       clear hwd HC1 HC2 HR1 HX4 hq1 hq4 H hn5 hn4 hn1
       go_wp2
       go_loopw [38] (fun i wr => ∃ y : Nat, y <= 5 /\ i = .int .i64 y /\ Own.St w.heap.size w wr [A64 bp 211 (pacc s 25), A64 br 129 (List.replicate 25 0), A64 bs 129 (thst s (5 * x + y))]) (fun i _ => 5 - (intOf i).toNat)
       case atStart => exact ⟨0, by omega, rfl, G2.out⟩
       case round =>
        obtain ⟨y, hy5, rfl, G⟩ := hrel
        have G := Lib.hid G
        by_cases hy : (y : Int) < 5
        · have hyn : y < 5 := by omega
          obtain ⟨i, hi⟩ : ∃ i, i = x % 5 + 5 * (y % 5) := ⟨_, rfl⟩
          have hi' : i = x + 5 * y := by omega
          have hil : i < 25 := by omega
          have hil' : (i : Int) < 25 := by omega
          obtain ⟨z5, hz5⟩ : ∃ z, z = at' s x y := ⟨_, rfl⟩
          obtain ⟨z6, hz6⟩ : ∃ z, z = z5 ^^^ z4 := ⟨_, rfl⟩
          have HX6 : Hid (bits .xor .u64 (z5.toNat : Int) (z4.toNat : Int) = (z6.toNat : Int)) := by
           show bits .xor .u64 (z5.toNat : Int) (z4.toNat : Int) = (z6.toNat : Int)
           rw [u64_xor_nat _ _ z5.isLt z4.isLt, hz6, BitVec.toNat_xor]
          have hxor : bits .xor .u64 (z5.toNat : Int) (z4.toNat : Int) = (z6.toNat : Int) := HX6.out
          have CA := Lib.hid (atK_nat x y i (by omega) (by omega) hi wr)
          obtain ⟨cp, fp⟩ := A64.cell G.out 2 rfl i (by rw [thst_len]; exact hil) (by rw [hi', thst_get s x y hxn hyn, <- hz5])
          have PUT : Hid (Own.St w.heap.size w (wr.setCell ⟨bs, i, none⟩ (.int .u64 (z6.toNat : Int))) [A64 bp 211 (pacc s 25), A64 br 129 (List.replicate 25 0), A64 bs 129 (thst s (5 * x + (y + 1)))]) := by
           have h := A64.store G.out 2 rfl i z6
           have e : (thst s (5 * x + y)).set i z6 = thst s (5 * x + (y + 1)) := by rw [hi', hz6, hz5, HZ4.out, thst_set s x y hxn hyn]
           rw [e] at h
           exact h
          clear hz5 hz6 HX6 hi hi'
          go_wp2_with (fail)
          refine CA.out.mono ?_
          rintro e w' ⟨rfl, rfl⟩
          go_wp2
          go_roundw
          case rel => exact ⟨y + 1, by omega, by go_num, PUT.out⟩
          case measure => simp [intOf]; omega
        · have G3 : Hid (Own.St w.heap.size w wr [A64 bp 211 (pacc s 25), A64 br 129 (List.replicate 25 0), A64 bs 129 (thst s (5 * (x + 1)))]) := by
           have h := G.out
           rw [show 5 * x + y = 5 * (x + 1) by omega] at h
           exact h
          clear hy5
          go_wp2
          go_roundw
          case rel => exact ⟨x + 1, by omega, by go_num, G3.out⟩
          case measure => simp [intOf]; omega
     · obtain ⟨rs, hrs⟩ : ∃ r, r = theta s := ⟨_, rfl⟩
       have LR : Hid (rs.length = 25) := by rw [hrs]; exact mk_len _
       have H5 : Hid (Own.St w.heap.size w wr [A64 bp 211 (pacc s 25), A64 br 129 (List.replicate 25 0), A64 bs 129 rs]) := by
        have h := H.out
        rw [show 5 * x = 25 by omega, thst_all, <- hrs] at h
        exact h
       have HRS := Lib.hid hrs
       clear hrs H hx5
       have LAST := Lib.hid (A64.setAll H5.out 1 rfl rs (by rw [LR.out]; rfl))
       have ROW := Lib.hid (A64.row H5.out 2 rfl)
       have THERE := Lib.hid (A64.there H5.out 1 rfl rs (by rw [LR.out]; rfl))
       have INFO2 := Lib.hid (info_lanes rs LR.out)
       have ONE := Lib.hid (one_cells rs)
       go_wp2_with (first
        | (refine wpList_load_row rfl 129 (.tmp 1) rfl bs rfl 129 _ (0, 0) _ ROW.out Tryz.underlying129 rfl INFO2.out ?_)
        | (refine wpList_store_mid rfl 129 (.tmp 2) (.tmp 51) rfl br 0 (rs.map u64V).toArray rfl rfl THERE.out INFO2.out ONE.out ?_))
       have END := Lib.hid (A64.row LAST.out 1 rfl)
       refine bodyPost_ret (results_cell_row rfl _ _ br 129 _ (0, 0) _ rfl END.out Tryz.underlying129 rfl INFO2.out) rfl ?_
       refine ⟨?_, LAST.out.below⟩
       rw [HRS.out]
end Kec
end Go.Proofs.YtahjjcmeocibbaaGreatDoor
end
section
namespace Go.Proofs.YtahjjcmeocibbaaGreatDoor
open Go.RowKit Go.Own
namespace Kec
open Go.KecM
theorem idxTab {o : Oper} {y : Tmp} (ho : o.op = .indexAddr 210 (.global 0) (.tmp y)) (k : Nat) (hk : k < 25) : ∀ (ρ : Operand -> Value) w, ρ (.global 0) = .pointer (some ⟨0, 0, none⟩) -> ρ (.tmp y) = .int .i64 k -> (execOp ρ o).run Tryz.prog w = .ok (.value (.pointer (some ⟨0, k, none⟩))) w := by
 intro ρ w h0 h1
 have hk' : (k : Int) < 25 := by omega
 simp [execOp, ho, h0, h1, go_sem, hk']
theorem loadInt {o : Oper} {x : Tmp} (ho : o.op = .load 3 (.tmp x)) {a : Addr} {n : Nat} (ρ : Operand -> Value) {w : World} (hc : w.cell? a = some (.int .i64 (n : Int))) (h0 : ρ (.tmp x) = .pointer (some a)) : (execOp ρ o).run Tryz.prog w = .ok (.value (.int .i64 (n : Int))) w := by
 simp [execOp, ho, h0, go_sem, hc]
set_option maxHeartbeats 4000000 in
theorem rotate_any (s : KecM.St) (hs : s.length = 25) (w : World) (TB : Tab w) :
 Calls Tryz.prog 121 #[.agg (s.map u64V).toArray] w fun e w' => e = .returned (.agg ((rho s).map u64V).toArray) /\ Below w.heap.size w w' := by
 have TAB := Lib.hid TB
 clear TB
 have HSL := Lib.hid hs
 clear hs
 have INFO := Lib.hid (info_lanes s HSL.out)
 go_enter Tryz.func121, Tryz.ntmps121
 have hst := A64.box (A64.box (Own.St.start w) 129 s) 129 (List.replicate 25 0)
 simp only [size_alloc'] at hst
 go_wp2
 change Code.wp _ _ _ _ ((w.alloc (.cells (s.map u64V).toArray 129)).alloc (.cells ((List.replicate 25 (0 : KecM.W)).map u64V).toArray 129))
 generalize (w.alloc (.cells (s.map u64V).toArray 129)).alloc (.cells ((List.replicate 25 (0 : KecM.W)).map u64V).toArray 129) = W1 at hst ⊢
 obtain ⟨bs, hbs⟩ : ∃ b, b = w.heap.size := ⟨_, rfl⟩
 obtain ⟨br, hbr⟩ : ∃ b, b = w.heap.size + 1 := ⟨_, rfl⟩
 rw [<- hbr] at hst ⊢
 have HST : Hid (Own.St w.heap.size w W1 [A64 br 129 (List.replicate 25 0), A64 bs 129 (rhst s 0)]) := by rw [hbs, rhst_zero s HSL.out]; exact hst
 rw [<- hbs]
 clear hst hbs hbr
 go_loopw [4] (fun i wr => ∃ x : Nat, x <= 25 /\ i = .int .i64 x /\ Own.St w.heap.size w wr [A64 br 129 (List.replicate 25 0), A64 bs 129 (rhst s x)]) (fun i _ => 25 - (intOf i).toNat)
 case atStart => exact ⟨0, by omega, rfl, HST.out⟩
 case round =>
  obtain ⟨x, hx25, rfl, H⟩ := hrel
  have H := Lib.hid H
  by_cases hx : (x : Int) < 25
  · have hlx : x < 25 := by omega
    obtain ⟨z1, hz1⟩ : ∃ z, z = s.getD x 0 := ⟨_, rfl⟩
    obtain ⟨n, hn⟩ : ∃ n, n = turns.getD x 0 := ⟨_, rfl⟩
    obtain ⟨z2, hz2⟩ : ∃ z, z = rot z1 n := ⟨_, rfl⟩
    have hn64 : n < 64 := by
     have := turn_lt (x % 5) (x / 5)
     unfold KecM.turn at this
     rw [show x % 5 % 5 + 5 * (x / 5 % 5) = x by omega, <- hn] at this
     exact this
    have HC1 : Hid (∀ wx, Below wr.heap.size wr wx -> wx.cell? ⟨bs, x, none⟩ = some (.int .u64 (z1.toNat : Int))) := fun wx hwx => cell_later (A64.cell H.out 1 rfl x (by rw [rhst_len]; exact hlx) (by rw [rhst_get s x hlx, hz1])).1 hwx
    have HT1 : Hid (∀ wx, Below wr.heap.size wr wx -> wx.cell? ⟨0, x, none⟩ = some (.int .i64 (n : Int))) := fun wx hwx => by
     rw [hn]; exact TAB.out.later (H.out.below.trans (hwx.mono H.out.size)) x hlx
    have HR1 : Hid (∀ wx, Calls Tryz.prog 137 #[.int .u64 z1.toNat, .int .i64 n] wx fun e w' => e = .returned (.int .u64 z2.toNat) /\ Below wx.heap.size wx w') := by
     intro wx; rw [hz2]; exact rotK_below z1 n hn64 wx
    have HZ : Hid ((rhst s x).set x z2 = rhst s (x + 1)) := by show (rhst s x).set x z2 = _; rw [hz2, hz1, hn, rhst_set]
    clear hz1 hn hz2 hn64
    go_wp2
    refine wp_laxT_list 9 (by kernel_rfl) (by kernel_rfl) (by kernel_rfl) (by kernel_rfl) (by kernel_rfl) ?_
    simp only [List.take_succ_cons, List.take_zero, List.drop_succ_cons, List.drop_zero]
    refine lxM (.int .i64 x) rfl ?_; refine lxM (.int .i64 x) rfl ?_; refine lxT (.tmp 1) (.tmp 8) (.pointer (some ⟨bs, 0, none⟩)) (.int .i64 x) (.pointer (some ⟨bs, x, none⟩)) (fun wx ρ hwx h0 h1 hc => idx25 rfl x hlx bs ρ wx h0 h1) ?_; refine lxR (.tmp 9) (.pointer (some ⟨bs, x, none⟩)) (.int .u64 z1.toNat) (fun wx ρ hwx h0 hc => load64 rfl ρ (HC1.out wx hwx) h0) ?_; refine lxM (.int .i64 x) rfl ?_; refine lxT (.global 0) (.tmp 11) (.pointer (some ⟨0, 0, none⟩)) (.int .i64 x) (.pointer (some ⟨0, x, none⟩)) (fun wx ρ hwx h0 h1 hc => idxTab rfl x hlx ρ wx h0 h1) ?_; refine lxR (.tmp 12) (.pointer (some ⟨0, x, none⟩)) (.int .i64 n) (fun wx ρ hwx h0 hc => loadInt rfl ρ (HT1.out wx hwx) h0) ?_
    refine wpL_fn (.int .u64 z2.toNat) [.int .u64 z1.toNat, .int .i64 n] rfl (by kernel_rfl) (by kernel_rfl) (by kernel_rfl) (by kernel_rfl) (fun _ _ => by simp [go_sem]) (fun wx hwx => HR1.out wx) ?_
    refine lxT (.tmp 1) (.tmp 7) (.pointer (some ⟨bs, 0, none⟩)) (.int .i64 x) (.pointer (some ⟨bs, x, none⟩)) (fun wx ρ hwx h0 h1 hc => idx25 rfl x hlx bs ρ wx h0 h1) ?_
    refine wpL_end (by kernel_rfl) (fun wd hwd => ?_)
    simp only [FinL, setL, List.set_cons_zero, List.set_cons_succ]
    have G2 := Lib.hid (H.out.later hwd)
    obtain ⟨cp, fp⟩ := A64.cell G2.out 1 rfl x (by rw [rhst_len]; exact hlx) rfl
    have PUT := Lib.hid (A64.store G2.out 1 rfl x z2)
    clear hwd HC1 HT1 HR1 H
    go_wp2
    go_roundw
    case rel =>
     have h := PUT.out
     rw [HZ.out] at h
     exact ⟨x + 1, by omega, by go_num, h⟩
    case measure => simp [intOf]; omega
  · obtain ⟨rs, hrs⟩ : ∃ r, r = rho s := ⟨_, rfl⟩
    have LR : Hid (rs.length = 25) := by rw [hrs]; exact rho_len _
    have H5 : Hid (Own.St w.heap.size w wr [A64 br 129 (List.replicate 25 0), A64 bs 129 rs]) := by
     have h := H.out
     rw [show x = 25 by omega, rhst_all, <- hrs] at h
     exact h
    have HRS := Lib.hid hrs
    clear hrs H hx25
    have LAST := Lib.hid (A64.setAll H5.out 0 rfl rs (by rw [LR.out]; rfl))
    have ROW := Lib.hid (A64.row H5.out 1 rfl)
    have THERE := Lib.hid (A64.there H5.out 0 rfl rs (by rw [LR.out]; rfl))
    have INFO2 := Lib.hid (info_lanes rs LR.out)
    have ONE := Lib.hid (one_cells rs)
    go_wp2_with (first
     | (refine wpList_load_row rfl 129 (.tmp 1) rfl bs rfl 129 _ (0, 0) _ ROW.out Tryz.underlying129 rfl INFO2.out ?_)
     | (refine wpList_store_mid rfl 129 (.tmp 2) (.tmp 17) rfl br 0 (rs.map u64V).toArray rfl rfl THERE.out INFO2.out ONE.out ?_))
    have END := Lib.hid (A64.row LAST.out 0 rfl)
    refine bodyPost_ret (results_cell_row rfl _ _ br 129 _ (0, 0) _ rfl END.out Tryz.underlying129 rfl INFO2.out) rfl ?_
    refine ⟨?_, LAST.out.below⟩
    rw [HRS.out]
set_option maxHeartbeats 4000000 in
theorem move_any (s : KecM.St) (hs : s.length = 25) (w : World) :
 Calls Tryz.prog 124 #[.agg (s.map u64V).toArray] w fun e w' => e = .returned (.agg ((pim s).map u64V).toArray) /\ Below w.heap.size w w' := by
 have HSL := Lib.hid hs
 clear hs
 have INFO := Lib.hid (info_lanes s HSL.out)
 go_enter Tryz.func124, Tryz.ntmps124
 have hst := A64.box (A64.box (A64.box (Own.St.start w) 129 s) 129 (List.replicate 25 0)) 129 (List.replicate 25 0)
 simp only [size_alloc'] at hst
 go_wp2
 change Code.wp _ _ _ _ (((w.alloc (.cells (s.map u64V).toArray 129)).alloc (.cells ((List.replicate 25 (0 : KecM.W)).map u64V).toArray 129)).alloc (.cells ((List.replicate 25 (0 : KecM.W)).map u64V).toArray 129))
 generalize ((w.alloc (.cells (s.map u64V).toArray 129)).alloc (.cells ((List.replicate 25 (0 : KecM.W)).map u64V).toArray 129)).alloc (.cells ((List.replicate 25 (0 : KecM.W)).map u64V).toArray 129) = W1 at hst ⊢
 obtain ⟨bs, hbs⟩ : ∃ b, b = w.heap.size := ⟨_, rfl⟩
 obtain ⟨br, hbr⟩ : ∃ b, b = w.heap.size + 1 := ⟨_, rfl⟩
 obtain ⟨bm, hbm⟩ : ∃ b, b = w.heap.size + 1 + 1 := ⟨_, rfl⟩
 rw [<- hbm, <- hbr] at hst ⊢
 have HST : Hid (Own.St w.heap.size w W1 [A64 bm 129 (pist s (5 * 0)), A64 br 129 (List.replicate 25 0), A64 bs 129 s]) := by rw [hbs, Nat.mul_zero, pist_zero]; exact hst
 rw [<- hbs]
 clear hst hbs hbr hbm
 go_loopw [6] (fun i wr => ∃ x : Nat, x <= 5 /\ i = .int .i64 x /\ Own.St w.heap.size w wr [A64 bm 129 (pist s (5 * x)), A64 br 129 (List.replicate 25 0), A64 bs 129 s]) (fun i _ => 5 - (intOf i).toNat)
 case atStart => exact ⟨0, by omega, rfl, HST.out⟩
 case round =>
  obtain ⟨x, hx5, rfl, H⟩ := hrel
  have H := Lib.hid H
  by_cases hx : (x : Int) < 5
  · have hxn : x < 5 := by omega
    obtain ⟨wo, hwo⟩ : ∃ wo, wo = wr := ⟨_, rfl⟩
    rw [<- hwo] at H ⊢
    clear hwo
    go_wp2
    go_loopw [9] (fun i wr => ∃ y : Nat, y <= 5 /\ i = .int .i64 y /\ Own.St w.heap.size w wr [A64 bm 129 (pist s (5 * x + y)), A64 br 129 (List.replicate 25 0), A64 bs 129 s]) (fun i _ => 5 - (intOf i).toNat)
    case atStart => exact ⟨0, by omega, rfl, H.out⟩
    case round =>
     obtain ⟨y, hy5, rfl, G⟩ := hrel
     have G := Lib.hid G
     by_cases hy : (y : Int) < 5
     · have hyn : y < 5 := by omega
       obtain ⟨i, hi⟩ : ∃ i, i = x % 5 + 5 * (y % 5) := ⟨_, rfl⟩
       have hi' : i = x + 5 * y := by omega
       have hil : i < 25 := by omega
       have hil' : (i : Int) < 25 := by omega
       obtain ⟨k, hk⟩ : ∃ k, k = y % 5 + 5 * ((2 * x + 3 * y) % 5) := ⟨_, rfl⟩
       have hk' : k = y + 5 * ((2 * x + 3 * y) % 5) := by omega
       have hkl : k < 25 := by omega
       have hkl' : (k : Int) < 25 := by omega
       obtain ⟨z, hz⟩ : ∃ z, z = at' s x y := ⟨_, rfl⟩
       have C1 : Hid (Calls Tryz.prog 138 #[.int .i64 y, .int .i64 (2 * (x : Int) + 3 * (y : Int))] wr fun e w' => e = .returned (.int .i64 k) /\ wr = w') := by
        have h := atK_nat y (2 * x + 3 * y) k (by omega) (by omega) hk wr
        rw [show ((2 * x + 3 * y : Nat) : Int) = 2 * (x : Int) + 3 * (y : Int) by omega] at h
        exact h
       have C2 := Lib.hid (atK_nat x y i (by omega) (by omega) hi wr)
       have ci := (A64.cell G.out 2 rfl i (by rw [HSL.out]; exact hil) (by rw [hi', at_get s x y hxn hyn, <- hz])).1
       obtain ⟨cp, fp⟩ := A64.cell G.out 0 rfl k (by rw [pist_len]; exact hkl) rfl
       have PUT : Hid (Own.St w.heap.size w (wr.setCell ⟨bm, k, none⟩ (.int .u64 (z.toNat : Int))) [A64 bm 129 (pist s (5 * x + (y + 1))), A64 br 129 (List.replicate 25 0), A64 bs 129 s]) := by
        have h := A64.store G.out 0 rfl k z
        have e : (pist s (5 * x + y)).set k z = pist s (5 * x + (y + 1)) := by rw [hk', hz, pist_set s x y hxn hyn]
        rw [e] at h
        exact h
       clear hz hi hi' hk hk'
       go_wp2_with (fail)
       refine C1.out.mono ?_
       rintro e w' ⟨rfl, rfl⟩
       go_wp2_with (fail)
       refine C2.out.mono ?_
       rintro e w' ⟨rfl, rfl⟩
       go_wp2
       go_roundw
       case rel => exact ⟨y + 1, by omega, by go_num, PUT.out⟩
       case measure => simp [intOf]; omega
     · have G3 : Hid (Own.St w.heap.size w wr [A64 bm 129 (pist s (5 * (x + 1))), A64 br 129 (List.replicate 25 0), A64 bs 129 s]) := by
        have h := G.out
        rw [show 5 * x + y = 5 * (x + 1) by omega] at h
        exact h
       clear hy5
       go_wp2
       go_roundw
       case rel => exact ⟨x + 1, by omega, by go_num, G3.out⟩
       case measure => simp [intOf]; omega
  · obtain ⟨rs, hrs⟩ : ∃ r, r = pim s := ⟨_, rfl⟩
    have LR : Hid (rs.length = 25) := by rw [hrs]; exact mk_len _
    have H5 : Hid (Own.St w.heap.size w wr [A64 bm 129 rs, A64 br 129 (List.replicate 25 0), A64 bs 129 s]) := by
     have h := H.out
     rw [show 5 * x = 25 by omega, pist_all, <- hrs] at h
     exact h
    have HRS := Lib.hid hrs
    clear hrs H hx5
    have LAST := Lib.hid (A64.setAll H5.out 1 rfl rs (by rw [LR.out]; rfl))
    have ROW := Lib.hid (A64.row H5.out 0 rfl)
    have THERE := Lib.hid (A64.there H5.out 1 rfl rs (by rw [LR.out]; rfl))
    have INFO2 := Lib.hid (info_lanes rs LR.out)
    have ONE := Lib.hid (one_cells rs)
    go_wp2_with (first
     | (refine wpList_load_row rfl 129 (.tmp 3) rfl bm rfl 129 _ (0, 0) _ ROW.out Tryz.underlying129 rfl INFO2.out ?_)
     | (refine wpList_store_mid rfl 129 (.tmp 2) (.tmp 27) rfl br 0 (rs.map u64V).toArray rfl rfl THERE.out INFO2.out ONE.out ?_))
    have END := Lib.hid (A64.row LAST.out 1 rfl)
    refine bodyPost_ret (results_cell_row rfl _ _ br 129 _ (0, 0) _ rfl END.out Tryz.underlying129 rfl INFO2.out) rfl ?_
    refine ⟨?_, LAST.out.below⟩
    rw [HRS.out]
set_option maxHeartbeats 4000000 in
theorem combine_any (s : KecM.St) (hs : s.length = 25) (w : World) :
 Calls Tryz.prog 123 #[.agg (s.map u64V).toArray] w fun e w' => e = .returned (.agg ((chi s).map u64V).toArray) /\ Below w.heap.size w w' := by
 have HSL := Lib.hid hs
 clear hs
 have INFO := Lib.hid (info_lanes s HSL.out)
 go_enter Tryz.func123, Tryz.ntmps123
 have hst := A64.box (A64.box (Own.St.start w) 129 s) 129 (List.replicate 25 0)
 have hst2 := A64.box hst 129 (List.replicate 25 0)
 simp only [size_alloc'] at hst hst2
 have ROW := Lib.hid (A64.row hst 1 rfl)
 have THERE := Lib.hid (A64.there hst2 0 rfl s (by rw [HSL.out]; rfl))
 have ONE := Lib.hid (one_cells s)
 have ALL := Lib.hid (A64.setAll hst2 0 rfl s (by rw [HSL.out]; rfl))
 clear hst hst2
 go_wp2_with (first
  | (refine wpList_load_row rfl 129 (.tmp 1) rfl w.heap.size rfl 129 _ (0, 0) _ ROW.out Tryz.underlying129 rfl INFO.out ?_)
  | (refine wpList_store_mid rfl 129 (.tmp 3) (.tmp 6) rfl (w.heap.size + 1 + 1) 0 (s.map u64V).toArray rfl rfl THERE.out INFO.out ONE.out ?_))
 clear THERE ROW
 change Code.wp _ _ _ _ ((((w.alloc (.cells (s.map u64V).toArray 129)).alloc (.cells ((List.replicate 25 (0 : KecM.W)).map u64V).toArray 129)).alloc (.cells ((List.replicate 25 (0 : KecM.W)).map u64V).toArray 129)).setCells (w.heap.size + 1 + 1) 0 (s.map u64V).toArray.toList)
 generalize (((w.alloc (.cells (s.map u64V).toArray 129)).alloc (.cells ((List.replicate 25 (0 : KecM.W)).map u64V).toArray 129)).alloc (.cells ((List.replicate 25 (0 : KecM.W)).map u64V).toArray 129)).setCells (w.heap.size + 1 + 1) 0 (s.map u64V).toArray.toList = W1 at ALL ⊢
 obtain ⟨bs, hbs⟩ : ∃ b, b = w.heap.size := ⟨_, rfl⟩
 obtain ⟨br, hbr⟩ : ∃ b, b = w.heap.size + 1 := ⟨_, rfl⟩
 obtain ⟨bc, hbc⟩ : ∃ b, b = w.heap.size + 1 + 1 := ⟨_, rfl⟩
 rw [<- hbc, <- hbr] at ALL ⊢
 have HST : Hid (Own.St w.heap.size w W1 [A64 bc 129 (chst s (5 * 0)), A64 br 129 (List.replicate 25 0), A64 bs 129 s]) := by rw [hbs, Nat.mul_zero, chst_zero s HSL.out]; exact ALL.out
 rw [<- hbs]
 clear ALL hbs hbr hbc
 go_loopw [7] (fun i wr => ∃ x : Nat, x <= 5 /\ i = .int .i64 x /\ Own.St w.heap.size w wr [A64 bc 129 (chst s (5 * x)), A64 br 129 (List.replicate 25 0), A64 bs 129 s]) (fun i _ => 5 - (intOf i).toNat)
 case atStart => exact ⟨0, by omega, rfl, HST.out⟩
 case round =>
  obtain ⟨x, hx5, rfl, H⟩ := hrel
  have H := Lib.hid H
  by_cases hx : (x : Int) < 5
  · have hxn : x < 5 := by omega
    have hx10 : x <= 1000 := by omega
    obtain ⟨wo, hwo⟩ : ∃ wo, wo = wr := ⟨_, rfl⟩
    rw [<- hwo] at H ⊢
    clear hwo
    go_wp2
    go_loopw [10] (fun i wr => ∃ y : Nat, y <= 5 /\ i = .int .i64 y /\ Own.St w.heap.size w wr [A64 bc 129 (chst s (5 * x + y)), A64 br 129 (List.replicate 25 0), A64 bs 129 s]) (fun i _ => 5 - (intOf i).toNat)
    case atStart => exact ⟨0, by omega, rfl, H.out⟩
    case round =>
     obtain ⟨y, hy5, rfl, G⟩ := hrel
     have G := Lib.hid G
     by_cases hy : (y : Int) < 5
     · have hyn : y < 5 := by omega
       obtain ⟨n1, hn1⟩ : ∃ n, n = x + 1 := ⟨_, rfl⟩
       obtain ⟨n2, hn2⟩ : ∃ n, n = x + 2 := ⟨_, rfl⟩
       obtain ⟨i0, hi0⟩ : ∃ i, i = x % 5 + 5 * (y % 5) := ⟨_, rfl⟩
       obtain ⟨i1, hi1⟩ : ∃ i, i = n1 % 5 + 5 * (y % 5) := ⟨_, rfl⟩
       obtain ⟨i2, hi2⟩ : ∃ i, i = n2 % 5 + 5 * (y % 5) := ⟨_, rfl⟩
       have hi0' : i0 = x + 5 * y := by omega
       have hli0 : i0 < 25 := by omega
       have hli1 : i1 < 25 := by omega
       have hli2 : i2 < 25 := by omega
       obtain ⟨z1, hz1⟩ : ∃ z, z = at' s x y := ⟨_, rfl⟩
       obtain ⟨z2, hz2⟩ : ∃ z, z = at' s (x + 2) y := ⟨_, rfl⟩
       obtain ⟨z3, hz3⟩ : ∃ z, z = at' s (x + 1) y := ⟨_, rfl⟩
       obtain ⟨z4, hz4⟩ : ∃ z, z = z2 &&& ~~~ z3 := ⟨_, rfl⟩
       obtain ⟨z5, hz5⟩ : ∃ z, z = z1 ^^^ z4 := ⟨_, rfl⟩
       have HC1 : Hid (∀ wx, Below wr.heap.size wr wx -> wx.cell? ⟨bc, i0, none⟩ = some (.int .u64 (z1.toNat : Int))) := fun wx hwx => cell_later (A64.cell G.out 0 rfl i0 (by rw [chst_len]; exact hli0) (by rw [hi0', chst_get s x y hxn hyn, hz1])).1 hwx
       have HC2 : Hid (∀ wx, Below wr.heap.size wr wx -> wx.cell? ⟨bs, i2, none⟩ = some (.int .u64 (z2.toNat : Int))) := fun wx hwx => cell_later (A64.cell G.out 2 rfl i2 (by rw [HSL.out]; exact hli2) (by rw [hz2, hi2, hn2]; rfl)).1 hwx
       have HC3 : Hid (∀ wx, Below wr.heap.size wr wx -> wx.cell? ⟨bs, i1, none⟩ = some (.int .u64 (z3.toNat : Int))) := fun wx hwx => cell_later (A64.cell G.out 2 rfl i1 (by rw [HSL.out]; exact hli1) (by rw [hz3, hi1, hn1]; rfl)).1 hwx
       have HX4 : Hid (bits .andNot .u64 (z2.toNat : Int) (z3.toNat : Int) = (z4.toNat : Int)) := by
        show bits .andNot .u64 (z2.toNat : Int) (z3.toNat : Int) = (z4.toNat : Int)
        rw [u64_andNot_nat _ _ z2.isLt z3.isLt, hz4, BitVec.toNat_and, BitVec.toNat_not]
       have HX5 : Hid (bits .xor .u64 (z1.toNat : Int) (z4.toNat : Int) = (z5.toNat : Int)) := by
        show bits .xor .u64 (z1.toNat : Int) (z4.toNat : Int) = (z5.toNat : Int)
        rw [u64_xor_nat _ _ z1.isLt z4.isLt, hz5, BitVec.toNat_xor]
       have HZ : Hid ((chst s (5 * x + y)).set i0 z5 = chst s (5 * x + (y + 1))) := by
        show (chst s (5 * x + y)).set i0 z5 = _
        rw [hi0', hz5, hz4, hz3, hz2, hz1, chst_set s x y hxn hyn]
       clear hz1 hz2 hz3 hz4 hz5
       go_wp2
       refine wp_laxT_list 20 (by kernel_rfl) (by kernel_rfl) (by kernel_rfl) (by kernel_rfl) (by kernel_rfl) ?_
       simp only [List.take_succ_cons, List.take_zero, List.drop_succ_cons, List.drop_zero]
       refine lxM (.int .i64 x) rfl ?_; refine lxM (.int .i64 y) rfl ?_
       refine wpL_fn (.int .i64 i0) [.int .i64 x, .int .i64 y] rfl (by kernel_rfl) (by kernel_rfl) (by kernel_rfl) (by kernel_rfl) (fun _ _ => by simp [go_sem]) (fun wx hwx => atK_below x y i0 (by omega) (by omega) hi0 wx) ?_
       refine lxT (.tmp 3) (.tmp 15) (.pointer (some ⟨bc, 0, none⟩)) (.int .i64 i0) (.pointer (some ⟨bc, i0, none⟩)) (fun wx ρ hwx h0 h1 hc => idx25 rfl i0 hli0 bc ρ wx h0 h1) ?_; refine lxR (.tmp 16) (.pointer (some ⟨bc, i0, none⟩)) (.int .u64 z1.toNat) (fun wx ρ hwx h0 hc => load64 rfl ρ (HC1.out wx hwx) h0) ?_; refine lxM (.int .i64 x) rfl ?_; refine lxR (.tmp 18) (.int .i64 x) (.int .i64 (n2 : Int)) (fun wx ρ hwx h0 hc => add_litN 2 rfl x hx10 (by decide) hn2 ρ wx h0 hc) ?_; refine lxM (.int .i64 y) rfl ?_
       refine wpL_fn (.int .i64 i2) [.int .i64 (n2 : Int), .int .i64 y] rfl (by kernel_rfl) (by kernel_rfl) (by kernel_rfl) (by kernel_rfl) (fun _ _ => by simp [go_sem]) (fun wx hwx => atK_below n2 y i2 (by omega) (by omega) hi2 wx) ?_
       refine lxT (.tmp 1) (.tmp 21) (.pointer (some ⟨bs, 0, none⟩)) (.int .i64 i2) (.pointer (some ⟨bs, i2, none⟩)) (fun wx ρ hwx h0 h1 hc => idx25 rfl i2 hli2 bs ρ wx h0 h1) ?_; refine lxR (.tmp 22) (.pointer (some ⟨bs, i2, none⟩)) (.int .u64 z2.toNat) (fun wx ρ hwx h0 hc => load64 rfl ρ (HC2.out wx hwx) h0) ?_; refine lxM (.int .i64 x) rfl ?_; refine lxR (.tmp 24) (.int .i64 x) (.int .i64 (n1 : Int)) (fun wx ρ hwx h0 hc => add_litN 1 rfl x hx10 (by decide) hn1 ρ wx h0 hc) ?_; refine lxM (.int .i64 y) rfl ?_
       refine wpL_fn (.int .i64 i1) [.int .i64 (n1 : Int), .int .i64 y] rfl (by kernel_rfl) (by kernel_rfl) (by kernel_rfl) (by kernel_rfl) (fun _ _ => by simp [go_sem]) (fun wx hwx => atK_below n1 y i1 (by omega) (by omega) hi1 wx) ?_
       refine lxT (.tmp 1) (.tmp 27) (.pointer (some ⟨bs, 0, none⟩)) (.int .i64 i1) (.pointer (some ⟨bs, i1, none⟩)) (fun wx ρ hwx h0 h1 hc => idx25 rfl i1 hli1 bs ρ wx h0 h1) ?_; refine lxR (.tmp 28) (.pointer (some ⟨bs, i1, none⟩)) (.int .u64 z3.toNat) (fun wx ρ hwx h0 hc => load64 rfl ρ (HC3.out wx hwx) h0) ?_; refine lxT (.tmp 23) (.tmp 29) (.int .u64 z2.toNat) (.int .u64 z3.toNat) (.int .u64 z4.toNat) (fun wx ρ hwx h0 h1 hc => by simp [h0, h1, go_sem, HX4.out]) ?_; refine lxT (.tmp 17) (.tmp 30) (.int .u64 z1.toNat) (.int .u64 z4.toNat) (.int .u64 z5.toNat) (fun wx ρ hwx h0 h1 hc => by simp [h0, h1, go_sem, HX5.out]) ?_; refine lxT (.tmp 3) (.tmp 15) (.pointer (some ⟨bc, 0, none⟩)) (.int .i64 i0) (.pointer (some ⟨bc, i0, none⟩)) (fun wx ρ hwx h0 h1 hc => idx25 rfl i0 hli0 bc ρ wx h0 h1) ?_
       refine wpL_end (by kernel_rfl) (fun wd hwd => ?_)
       simp only [FinL, setL, List.set_cons_zero, List.set_cons_succ]
       have G2 := Lib.hid (G.out.later hwd)
       obtain ⟨cp, fp⟩ := A64.cell G2.out 0 rfl i0 (by rw [chst_len]; exact hli0) rfl
       have PUT := Lib.hid (A64.store G2.out 0 rfl i0 z5)
       clear hwd HC1 HC2 HC3 HX4 HX5 hi0 hi1 hi2 hi0' hn1 hn2 G
       go_wp2
       go_roundw
       case rel =>
        have h := PUT.out
        rw [HZ.out] at h
        exact ⟨y + 1, by omega, by go_num, h⟩
       case measure => simp [intOf]; omega
     · have G3 : Hid (Own.St w.heap.size w wr [A64 bc 129 (chst s (5 * (x + 1))), A64 br 129 (List.replicate 25 0), A64 bs 129 s]) := by
        have h := G.out
        rw [show 5 * x + y = 5 * (x + 1) by omega] at h
        exact h
       clear hy5
       go_wp2
       go_roundw
       case rel => exact ⟨x + 1, by omega, by go_num, G3.out⟩
       case measure => simp [intOf]; omega
  · obtain ⟨rs, hrs⟩ : ∃ r, r = chi s := ⟨_, rfl⟩
    have LR : Hid (rs.length = 25) := by rw [hrs]; exact mk_len _
    have H5 : Hid (Own.St w.heap.size w wr [A64 bc 129 rs, A64 br 129 (List.replicate 25 0), A64 bs 129 s]) := by
     have h := H.out
     rw [show 5 * x = 25 by omega, chst_all, <- hrs] at h
     exact h
    have HRS := Lib.hid hrs
    clear hrs H hx5
    have LAST := Lib.hid (A64.setAll H5.out 1 rfl rs (by rw [LR.out]; rfl))
    have ROW := Lib.hid (A64.row H5.out 0 rfl)
    have THERE := Lib.hid (A64.there H5.out 1 rfl rs (by rw [LR.out]; rfl))
    have INFO2 := Lib.hid (info_lanes rs LR.out)
    have ONE := Lib.hid (one_cells rs)
    go_wp2_with (first
     | (refine wpList_load_row rfl 129 (.tmp 3) rfl bc rfl 129 _ (0, 0) _ ROW.out Tryz.underlying129 rfl INFO2.out ?_)
     | (refine wpList_store_mid rfl 129 (.tmp 2) (.tmp 35) rfl br 0 (rs.map u64V).toArray rfl rfl THERE.out INFO2.out ONE.out ?_))
    have END := Lib.hid (A64.row LAST.out 1 rfl)
    refine bodyPost_ret (results_cell_row rfl _ _ br 129 _ (0, 0) _ rfl END.out Tryz.underlying129 rfl INFO2.out) rfl ?_
    refine ⟨?_, LAST.out.below⟩
    rw [HRS.out]
end Kec
end Go.Proofs.YtahjjcmeocibbaaGreatDoor
end
section
namespace Go.Proofs.YtahjjcmeocibbaaGreatDoor
open Go.RowKit Go.Own
namespace Kec
open Go.KecM
theorem perm_next (n : Nat) (s : KecM.St) : roundM (markOf (n : Int)) (perm n s) = perm (n + 1) s := by
 show _ = roundM (markW n) (perm n s)
 unfold markOf
 rw [if_neg (by omega), Int.toNat_natCast]
end Kec
end Go.Proofs.YtahjjcmeocibbaaGreatDoor
end
section
namespace Go.Proofs.YtahjjcmeocibbaaGreatDoor
open Go.RowKit Go.Own
namespace Kec
open Go.KecM
set_option maxHeartbeats 4000000 in
theorem roundK_any (s : KecM.St) (hs : s.length = 25) (round : Int) (h0 : -9223372036854775808 <= round) (h1 : round <= 9223372036854775807) (w : World) (TB : Tab w) :
 Calls Tryz.prog 98 #[.agg (s.map u64V).toArray, .int .i64 round] w fun e w' => e = .returned (.agg ((roundM (markOf round) s).map u64V).toArray) /\ Below w.heap.size w w' := by
 have TAB := Lib.hid TB
 have HSL := Lib.hid hs
 obtain ⟨s1, hs1⟩ : ∃ t, t = theta s := ⟨_, rfl⟩
 obtain ⟨s2, hs2⟩ : ∃ t, t = rho s1 := ⟨_, rfl⟩
 obtain ⟨s3, hs3⟩ : ∃ t, t = pim s2 := ⟨_, rfl⟩
 obtain ⟨s4, hs4⟩ : ∃ t, t = chi s3 := ⟨_, rfl⟩
 obtain ⟨z1, hz1⟩ : ∃ z, z = s4.getD 0 0 := ⟨_, rfl⟩
 obtain ⟨z2, hz2⟩ : ∃ z, z = markOf round := ⟨_, rfl⟩
 obtain ⟨z3, hz3⟩ : ∃ z, z = z1 ^^^ z2 := ⟨_, rfl⟩
 obtain ⟨rs, hrs⟩ : ∃ r, r = s4.set 0 z3 := ⟨_, rfl⟩
 have HRS : Hid (rs = roundM (markOf round) s) := by
  show rs = roundM (markOf round) s
  rw [hrs, hz3, hz1, hz2, hs4, hs3, hs2, hs1, pim_rho]; rfl
 have L1 : Hid (s1.length = 25) := by rw [hs1]; exact mk_len _
 have L2 : Hid (s2.length = 25) := by rw [hs2]; exact rho_len _
 have L3 : Hid (s3.length = 25) := by rw [hs3]; exact mk_len _
 have L4 : Hid (s4.length = 25) := by rw [hs4]; exact mk_len _
 have LR : Hid (rs.length = 25) := by show rs.length = 25; rw [hrs, List.length_set]; exact L4.out
 have C1 : Hid (∀ wx, Calls Tryz.prog 122 #[.agg (s.map u64V).toArray] wx fun e w' => e = .returned (.agg (s1.map u64V).toArray) /\ Below wx.heap.size wx w') := by
  intro wx; rw [hs1]; exact spread_any s hs wx
 have C2 : Hid (∀ wx, Tab wx -> Calls Tryz.prog 121 #[.agg (s1.map u64V).toArray] wx fun e w' => e = .returned (.agg (s2.map u64V).toArray) /\ Below wx.heap.size wx w') := by
  intro wx h; rw [hs2]; exact rotate_any s1 L1.out wx h
 have C3 : Hid (∀ wx, Calls Tryz.prog 124 #[.agg (s2.map u64V).toArray] wx fun e w' => e = .returned (.agg (s3.map u64V).toArray) /\ Below wx.heap.size wx w') := by
  intro wx; rw [hs3]; exact move_any s2 L2.out wx
 have C4 : Hid (∀ wx, Calls Tryz.prog 123 #[.agg (s3.map u64V).toArray] wx fun e w' => e = .returned (.agg (s4.map u64V).toArray) /\ Below wx.heap.size wx w') := by
  intro wx; rw [hs4]; exact combine_any s3 L3.out wx
 have HMK : Hid (∀ wx, Calls Tryz.prog 125 #[.int .i64 round] wx fun e w' => e = .returned (.int .u64 z2.toNat) /\ Below wx.heap.size wx w') := by
  intro wx
  rw [hz2]
  exact (markK_any round h0 h1 wx).mono fun _ _ h => ⟨h.1, h.2 ▸ Below.refl _ _⟩
 have HX3 : Hid (bits .xor .u64 (z1.toNat : Int) (z2.toNat : Int) = (z3.toNat : Int)) := by
  show bits .xor .u64 (z1.toNat : Int) (z2.toNat : Int) = (z3.toNat : Int)
  rw [u64_xor_nat _ _ z1.isLt z2.isLt, hz3, BitVec.toNat_xor]
 have HZ1 := Lib.hid hz1
 have HR := Lib.hid hrs
 have I0 := Lib.hid (info_lanes s HSL.out)
 have I2 := Lib.hid (info_lanes s2 L2.out)
 have I4 := Lib.hid (info_lanes s4 L4.out)
 have IR := Lib.hid (info_lanes rs LR.out)
 have O2 := Lib.hid (one_cells s2)
 have O4 := Lib.hid (one_cells s4)
 have OR := Lib.hid (one_cells rs)
 clear hs1 hs2 hs3 hs4 hz1 hz2 hz3 hrs hs TB h0 h1
 go_enter Tryz.func98, Tryz.ntmps98
 have hst := A64.box (A64.box (Own.St.start w) 129 s) 129 (List.replicate 25 0)
 simp only [size_alloc'] at hst
 have ROW := Lib.hid (A64.row hst 1 rfl)
 have HST0 := Lib.hid hst
 clear hst
 go_wp2_with (refine wpList_load_row rfl 129 (.tmp 2) rfl w.heap.size rfl 129 _ (0, 0) _ ROW.out Tryz.underlying129 rfl I0.out ?_)
 clear ROW
 refine (C1.out _).mono ?_
 rintro e wa ⟨rfl, hwa⟩
 obtain ⟨bs, hbs⟩ : ∃ b, b = w.heap.size := ⟨_, rfl⟩
 obtain ⟨br, hbr⟩ : ∃ b, b = w.heap.size + 1 := ⟨_, rfl⟩
 have GA : Hid (Own.St w.heap.size w wa [A64 br 129 (List.replicate 25 0), A64 bs 129 s]) := by rw [hbr, hbs]; exact HST0.out.later hwa
 rw [<- hbr, <- hbs]
 clear hwa HST0 hbs hbr
 go_wp2_with (fail)
 refine (C2.out wa (TAB.out.later GA.out.below)).mono ?_
 rintro e wb ⟨rfl, hwb⟩
 have GB := Lib.hid (GA.out.later hwb)
 have ALL := Lib.hid (A64.setAll GB.out 1 rfl s2 (by rw [L2.out, HSL.out]))
 have THERE := Lib.hid (A64.there GB.out 1 rfl s2 (by rw [L2.out, HSL.out]))
 have ROW := Lib.hid (A64.row ALL.out 1 rfl)
 clear hwb GA GB
 go_wp2_with (first
  | (refine wpList_store_mid rfl 129 (.tmp 2) (.tmp 7) rfl bs 0 (s2.map u64V).toArray rfl rfl THERE.out I2.out O2.out ?_)
  | (refine wpList_load_row rfl 129 (.tmp 2) rfl bs rfl 129 _ (0, 0) _ ROW.out Tryz.underlying129 rfl I2.out ?_))
 refine (C3.out _).mono ?_
 rintro e wc ⟨rfl, hwc⟩
 have GC := Lib.hid (ALL.out.later hwc)
 clear hwc ALL THERE ROW
 go_wp2_with (fail)
 refine (C4.out wc).mono ?_
 rintro e wd ⟨rfl, hwd⟩
 have GD := Lib.hid (GC.out.later hwd)
 have ALL := Lib.hid (A64.setAll GD.out 1 rfl s4 (by rw [L2.out, L4.out]))
 have THERE := Lib.hid (A64.there GD.out 1 rfl s4 (by rw [L2.out, L4.out]))
 clear hwd GC GD
 go_wp2_with (refine wpList_store_mid rfl 129 (.tmp 2) (.tmp 10) rfl bs 0 (s4.map u64V).toArray rfl rfl THERE.out I4.out O4.out ?_)
 clear THERE
 obtain ⟨we, hwe⟩ : ∃ v, v = wd.setCells bs 0 (s4.map u64V).toArray.toList := ⟨_, rfl⟩
 rw [<- hwe] at ALL ⊢
 clear hwe
 have HC1 : Hid (∀ wx, Below we.heap.size we wx -> wx.cell? ⟨bs, 0, none⟩ = some (.int .u64 (z1.toNat : Int))) := fun wx hwx => cell_later (A64.cell ALL.out 1 rfl 0 (by rw [L4.out]; omega) HZ1.out.symm).1 hwx
 refine wp_laxT_list 6 (by kernel_rfl) (by kernel_rfl) (by kernel_rfl) (by kernel_rfl) (by kernel_rfl) ?_
 simp only [List.take_succ_cons, List.take_zero, List.drop_succ_cons, List.drop_zero]
 refine lxR (.tmp 2) (.pointer (some ⟨bs, 0, none⟩)) (.pointer (some ⟨bs, 0, none⟩)) (fun wx ρ hwx h0 hc => by simp [go_sem, h0, hc]) ?_; refine lxR (.tmp 11) (.pointer (some ⟨bs, 0, none⟩)) (.int .u64 z1.toNat) (fun wx ρ hwx h0 hc => load64 rfl ρ (HC1.out wx hwx) h0) ?_; refine lxM (.int .i64 round) rfl ?_
 refine wpL_fn (.int .u64 z2.toNat) [.int .i64 round] rfl (by kernel_rfl) (by kernel_rfl) (by kernel_rfl) (by kernel_rfl) (fun _ _ => by simp [go_sem]) (fun wx hwx => HMK.out wx) ?_
 refine lxT (.tmp 12) (.tmp 14) (.int .u64 z1.toNat) (.int .u64 z2.toNat) (.int .u64 z3.toNat) (fun wx ρ hwx h0 h1 hc => by simp [h0, h1, go_sem, HX3.out]) ?_; refine lxR (.tmp 2) (.pointer (some ⟨bs, 0, none⟩)) (.pointer (some ⟨bs, 0, none⟩)) (fun wx ρ hwx h0 hc => by simp [go_sem, h0, hc]) ?_
 refine wpL_end (by kernel_rfl) (fun wf hwf => ?_)
 simp only [FinL, setL, List.set_cons_zero, List.set_cons_succ]
 have G2 := Lib.hid (ALL.out.later hwf)
 obtain ⟨cp, fp⟩ := A64.cell G2.out 1 rfl 0 (by rw [L4.out]; omega) rfl
 have PUT : Hid (Own.St w.heap.size w (wf.setCell ⟨bs, 0, none⟩ (.int .u64 (z3.toNat : Int))) [A64 br 129 (List.replicate 25 0), A64 bs 129 rs]) := by
  have h := A64.store G2.out 1 rfl 0 z3
  rw [<- HR.out] at h
  exact h
 clear hwf HC1 HMK HX3 ALL
 have LAST := Lib.hid (A64.setAll PUT.out 0 rfl rs (by rw [LR.out]; rfl))
 have ROW := Lib.hid (A64.row PUT.out 1 rfl)
 have THERE := Lib.hid (A64.there PUT.out 0 rfl rs (by rw [LR.out]; rfl))
 go_wp2_with (first
  | (refine wpList_load_row rfl 129 (.tmp 2) rfl bs rfl 129 _ (0, 0) _ ROW.out Tryz.underlying129 rfl IR.out ?_)
  | (refine wpList_store_mid rfl 129 (.tmp 4) (.tmp 17) rfl br 0 (rs.map u64V).toArray rfl rfl THERE.out IR.out OR.out ?_))
 have END := Lib.hid (A64.row LAST.out 0 rfl)
 refine bodyPost_ret (results_cell_row rfl _ _ br 129 _ (0, 0) _ rfl END.out Tryz.underlying129 rfl IR.out) rfl ?_
 refine ⟨?_, LAST.out.below⟩
 rw [HRS.out]
set_option maxHeartbeats 400000 in
theorem permK_any (s : KecM.St) (hs : s.length = 25) (w : World) (TB : Tab w) :
 Calls Tryz.prog 70 #[.agg (s.map u64V).toArray] w fun e w' => e = .returned (.agg ((perm 24 s).map u64V).toArray) /\ Below w.heap.size w w' := by
 have TAB := Lib.hid TB
 have HSL := Lib.hid hs
 clear hs TB
 go_enter Tryz.func70, Tryz.ntmps70
 go_wp2
 have hst := A64.box (A64.box (Own.St.start w) 129 s) 129 (List.replicate 25 0)
 simp only [size_alloc'] at hst
 change Code.wp _ _ _ _ ((w.alloc (.cells (s.map u64V).toArray 129)).alloc (.cells ((List.replicate 25 (0 : KecM.W)).map u64V).toArray 129))
 generalize (w.alloc (.cells (s.map u64V).toArray 129)).alloc (.cells ((List.replicate 25 (0 : KecM.W)).map u64V).toArray 129) = W1 at hst ⊢
 obtain ⟨bs, hbs⟩ : ∃ b, b = w.heap.size := ⟨_, rfl⟩
 obtain ⟨br, hbr⟩ : ∃ b, b = w.heap.size + 1 := ⟨_, rfl⟩
 rw [<- hbr] at hst ⊢
 have HST : Hid (Own.St w.heap.size w W1 [A64 br 129 (List.replicate 25 0), A64 bs 129 s]) := by rw [hbs]; exact hst
 rw [<- hbs]
 clear hst hbs hbr
 go_loopw [4] (fun i wr => ∃ x : Nat, x <= 24 /\ i = .int .i64 x /\ Own.St w.heap.size w wr [A64 br 129 (List.replicate 25 0), A64 bs 129 (perm x s)]) (fun i _ => 24 - (intOf i).toNat)
 case atStart =>
  have h : Own.St w.heap.size w W1 [A64 br 129 (List.replicate 25 0), A64 bs 129 (perm 0 s)] := by rw [show perm 0 s = s from rfl]; exact HST.out
  exact ⟨0, by omega, rfl, h⟩
 case round =>
  obtain ⟨x, hx24, rfl, H⟩ := hrel
  have H := Lib.hid H
  obtain ⟨ts, hts⟩ : ∃ t, t = perm x s := ⟨_, rfl⟩
  have HLT : Hid (ts.length = 25) := by rw [hts]; exact perm_len x s HSL.out
  rw [<- hts] at H
  have ROW := Lib.hid (A64.row H.out 1 rfl)
  have INFO := Lib.hid (info_lanes ts HLT.out)
  by_cases hx : (x : Int) < 24
  · obtain ⟨rs, hrs⟩ : ∃ r, r = roundM (markOf (x : Int)) ts := ⟨_, rfl⟩
    have LR : Hid (rs.length = 25) := by rw [hrs]; exact roundM_len _ _
    have NEXT : Hid (rs = perm (x + 1) s) := by rw [hrs, hts]; exact perm_next x s
    have CALL : Hid (∀ wx, Tab wx -> Calls Tryz.prog 98 #[.agg (ts.map u64V).toArray, .int .i64 x] wx fun e w' => e = .returned (.agg (rs.map u64V).toArray) /\ Below wx.heap.size wx w') := by
     intro wx h
     rw [hrs]
     exact roundK_any ts HLT.out x (by omega) (by omega) wx h
    have INFO2 := Lib.hid (info_lanes rs LR.out)
    have ONE := Lib.hid (one_cells rs)
    clear hrs hts
    go_wp2_with (refine wpList_load_row rfl 129 (.tmp 1) rfl bs rfl 129 _ (0, 0) _ ROW.out Tryz.underlying129 rfl INFO.out ?_)
    refine (CALL.out wr (TAB.out.later H.out.below)).mono ?_
    rintro e wd ⟨rfl, hwd⟩
    have G := Lib.hid (H.out.later hwd)
    have ALL := Lib.hid (A64.setAll G.out 1 rfl rs (by rw [LR.out, HLT.out]))
    have THERE := Lib.hid (A64.there G.out 1 rfl rs (by rw [LR.out, HLT.out]))
    clear hwd
    go_wp2_with (refine wpList_store_mid rfl 129 (.tmp 1) (.tmp 9) rfl bs 0 (rs.map u64V).toArray rfl rfl THERE.out INFO2.out ONE.out ?_)
    go_roundw
    case rel =>
     refine ⟨x + 1, by omega, by go_num, ?_⟩
     rw [<- NEXT.out]
     exact ALL.out
    case measure => simp [intOf]; omega
  · have hx : x = 24 := by omega
    have NOW : Hid (ts = perm 24 s) := by show ts = perm 24 s; rw [hts, hx]
    have LAST := Lib.hid (A64.setAll H.out 0 rfl ts (by rw [HLT.out]; rfl))
    have THERE := Lib.hid (A64.there H.out 0 rfl ts (by rw [HLT.out]; rfl))
    have ONE := Lib.hid (one_cells ts)
    have END := Lib.hid (A64.row LAST.out 0 rfl)
    clear hts hx
    go_wp2_with (first
     | (refine wpList_load_row rfl 129 (.tmp 1) rfl bs rfl 129 _ (0, 0) _ ROW.out Tryz.underlying129 rfl INFO.out ?_)
     | (refine wpList_store_mid rfl 129 (.tmp 2) (.tmp 11) rfl br 0 (ts.map u64V).toArray rfl rfl THERE.out INFO.out ONE.out ?_))
    refine bodyPost_ret (results_cell_row rfl _ _ br 129 _ (0, 0) _ rfl END.out Tryz.underlying129 rfl INFO.out) rfl ?_
    refine ⟨?_, LAST.out.below⟩
    rw [NOW.out]
end Kec
end Go.Proofs.YtahjjcmeocibbaaGreatDoor
end
section
namespace Go.Proofs.YtahjjcmeocibbaaGreatDoor
open Go.RowKit Go.Own
namespace Spo
open Go.KecM Go.SpoM Byt
open Kec (A64 u64V info_lanes one_cells)
theorem quo_eight {o : Oper} {t : Tmp} (ho : o.op = .binOp .quo 3 (.tmp t) (.const (.int .i64 8)) 3) (k : Nat) (hk : k <= 1000) {q : Nat} (hq : q = k / 8) : ∀ (ρ : Operand -> Value) w, ρ (.tmp t) = .int .i64 (k : Int) -> (∀ c, ρ (.const c) = c) -> (execOp ρ o).run Tryz.prog w = .ok (.value (.int .i64 (q : Int))) w := by
 intro ρ w h0 hc
 have e1 : (k : Int).tdiv 8 = (q : Int) := by rw [Int.tdiv_eq_ediv_of_nonneg (by omega)]; omega
 have e : IntKind.i64.wrap (q : Int) = (q : Int) := IntWalk.i64_in _ (by omega)
 simp only [execOp, ho, h0, hc]
 generalize (k : Int) = m at e1
 simp [go_sem, e1, e]
theorem rem_eight {o : Oper} {t : Tmp} (ho : o.op = .binOp .rem 3 (.tmp t) (.const (.int .i64 8)) 3) (k : Nat) (hk : k <= 1000) {q : Nat} (hq : q = k % 8) : ∀ (ρ : Operand -> Value) w, ρ (.tmp t) = .int .i64 (k : Int) -> (∀ c, ρ (.const c) = c) -> (execOp ρ o).run Tryz.prog w = .ok (.value (.int .i64 (q : Int))) w := by
 intro ρ w h0 hc
 have e1 : (k : Int).tmod 8 = (q : Int) := by rw [Int.tmod_eq_emod_of_nonneg (by omega)]; omega
 have e : IntKind.i64.wrap (q : Int) = (q : Int) := IntWalk.i64_in _ (by omega)
 simp only [execOp, ho, h0, hc]
 generalize (k : Int) = m at e1
 simp [go_sem, e1]
theorem mul_eight {o : Oper} {t : Tmp} (ho : o.op = .binOp .mul 3 (.const (.int .i64 8)) (.tmp t) 3) (k : Nat) (hk : k < 8) {q : Nat} (hq : q = 8 * k) : ∀ (ρ : Operand -> Value) w, ρ (.tmp t) = .int .i64 (k : Int) -> (∀ c, ρ (.const c) = c) -> (execOp ρ o).run Tryz.prog w = .ok (.value (.int .i64 (q : Int))) w := by
 intro ρ w h0 hc
 have e : IntKind.i64.wrap (8 * (k : Int)) = (q : Int) := (IntWalk.i64_in _ (by omega)).trans (by omega)
 simp only [execOp, ho, h0, hc]
 generalize (k : Int) = m at e
 simp [go_sem, e]
theorem conv_8_64 {o : Oper} {x : Tmp} (ho : o.op = .convert 5 45 (.tmp x)) (c : UInt8) {z : W} (hz : z = BitVec.ofNat 64 c.toNat) (ρ : Operand -> Value) (w : World) (h0 : ρ (.tmp x) = .int .u8 (c.toNat : Int)) : (execOp ρ o).run Tryz.prog w = .ok (.value (.int .u64 (z.toNat : Int))) w := by
 have hc : c.toNat < 256 := c.toNat_lt
 have e : IntKind.u64.wrap (c.toNat : Int) = (z.toNat : Int) := by rw [Kec.wrap_u64', hz, BitVec.toNat_ofNat]; omega
 simp only [execOp, ho, h0]
 generalize (c.toNat : Int) = m at e
 simp [go_sem, e]
theorem shl64 {o : Oper} {x y : Tmp} (ho : o.op = .binOp .shl 45 (.tmp x) (.tmp y) 3) (z : W) (e : Nat) (he : e < 64) {u : W} (hu : u = z <<< e) (ρ : Operand -> Value) (w : World) (h0 : ρ (.tmp x) = .int .u64 (z.toNat : Int)) (h1 : ρ (.tmp y) = .int .i64 (e : Int)) : (execOp ρ o).run Tryz.prog w = .ok (.value (.int .u64 (u.toNat : Int))) w := by
 have e2 : IntKind.u64.wrap ((z.toNat : Int) * 2 ^ e) = (u.toNat : Int) := by
  rw [Kec.wrap_u64', hu, BitVec.toNat_shiftLeft, Nat.shiftLeft_eq]
  simp
 have h2 : ¬ (e : Int) < 0 := by omega
 have h3 : e < 64 := he
 simp only [execOp, ho, h0, h1]
 simp [go_sem, e2]
end Spo
end Go.Proofs.YtahjjcmeocibbaaGreatDoor
end
section
namespace Go.Proofs.YtahjjcmeocibbaaGreatDoor
open Go.RowKit Go.Own
namespace Spo
open Go.KecM Go.SpoM Byt
open Kec (A64 u64V info_lanes one_cells)
set_option maxHeartbeats 800000 in
theorem mixK_any (b i : Nat) (hi : i < 136) (c : UInt8) {z1 z4 : KecM.W} (hz : z4 = z1 ^^^ (BitVec.ofNat 64 c.toNat <<< (8 * (i % 8)))) (k : Nat) (hk : k = i / 8) (w : World) (hc : w.cell? ⟨b, k, none⟩ = some (.int .u64 (z1.toNat : Int))) (hf : w.frozen? ⟨b, k, none⟩ = false) :
 Calls Tryz.prog 69 #[.pointer (some ⟨b, 0, none⟩), .int .i64 i, .int .u8 c.toNat] w fun e w' => e = .returned (.tuple #[]) /\ ∃ wd, Below w.heap.size w wd /\ w' = wd.setCell ⟨b, k, none⟩ (.int .u64 (z4.toNat : Int)) := by
 obtain ⟨r, hr⟩ : ∃ r, r = i % 8 := ⟨_, rfl⟩
 obtain ⟨e, he⟩ : ∃ e, e = 8 * r := ⟨_, rfl⟩
 have hk25 : k < 25 := by omega
 have hr8 : r < 8 := by omega
 have he64 : e < 64 := by omega
 have hi1000 : i <= 1000 := by omega
 obtain ⟨z2, hz2⟩ : ∃ z, z = BitVec.ofNat 64 c.toNat := ⟨_, rfl⟩
 obtain ⟨z3, hz3⟩ : ∃ z, z = z2 <<< e := ⟨_, rfl⟩
 have HZ2 := Lib.hid hz2
 have HZ3 := Lib.hid hz3
 have HX4 : Hid (bits .xor .u64 (z1.toNat : Int) (z3.toNat : Int) = (z4.toNat : Int)) := by
  show bits .xor .u64 (z1.toNat : Int) (z3.toNat : Int) = (z4.toNat : Int)
  rw [u64_xor_nat _ _ z1.isLt z3.isLt, hz, <- hr, <- he, <- hz2, <- hz3, BitVec.toNat_xor]
 have HC1 : Hid (∀ wx, Below w.heap.size w wx -> wx.cell? ⟨b, k, none⟩ = some (.int .u64 (z1.toNat : Int))) := fun wx hwx => Kec.cell_later hc hwx
 have HF1 : Hid (∀ wx, Below w.heap.size w wx -> wx.frozen? ⟨b, k, none⟩ = false) := fun wx hwx => (hwx.frozen (p := ⟨b, k, none⟩) (World.block_lt_of_cell? w _ hc)).trans hf
 have HK := Lib.hid hk
 have HR := Lib.hid hr
 have HE := Lib.hid he
 clear hz hk hr he hz2 hz3 hc hf
 go_enter Tryz.func69, Tryz.ntmps69
 go_wp2_with (fail)
 refine wp_laxW_list 15 (by kernel_rfl) (by kernel_rfl) (by kernel_rfl) (by kernel_rfl) (by kernel_rfl) ?_
 simp only [List.take_succ_cons, List.take_zero, List.drop_succ_cons, List.drop_zero]
 refine lxM (.pointer (some ⟨b, 0, none⟩)) rfl ?_; refine lxM (.int .i64 (i : Int)) rfl ?_; refine lxR (.tmp 7) (.int .i64 (i : Int)) (.int .i64 (k : Int)) (fun wx ρ hwx h0 hc => quo_eight rfl i hi1000 HK.out ρ wx h0 hc) ?_; refine lxR (.tmp 6) (.pointer (some ⟨b, 0, none⟩)) (.pointer (some ⟨b, 0, none⟩)) (fun wx ρ hwx h0 hc => by simp [go_sem, h0]) ?_; refine lxT (.tmp 9) (.tmp 8) (.pointer (some ⟨b, 0, none⟩)) (.int .i64 (k : Int)) (.pointer (some ⟨b, k, none⟩)) (fun wx ρ hwx h0 h1 hc => Kec.idx25 rfl k hk25 b ρ wx h0 h1) ?_; refine lxR (.tmp 10) (.pointer (some ⟨b, k, none⟩)) (.int .u64 z1.toNat) (fun wx ρ hwx h0 hc => Kec.load64 rfl ρ (HC1.out wx hwx) h0) ?_; refine lxM (.int .u8 (c.toNat : Int)) rfl ?_; refine lxR (.tmp 12) (.int .u8 (c.toNat : Int)) (.int .u64 (z2.toNat : Int)) (fun wx ρ hwx h0 hc => conv_8_64 rfl c HZ2.out ρ wx h0) ?_; refine lxM (.int .i64 (i : Int)) rfl ?_; refine lxR (.tmp 14) (.int .i64 (i : Int)) (.int .i64 (r : Int)) (fun wx ρ hwx h0 hc => rem_eight rfl i hi1000 HR.out ρ wx h0 hc) ?_; refine lxR (.tmp 15) (.int .i64 (r : Int)) (.int .i64 (e : Int)) (fun wx ρ hwx h0 hc => mul_eight rfl r hr8 HE.out ρ wx h0 hc) ?_; refine lxT (.tmp 13) (.tmp 16) (.int .u64 (z2.toNat : Int)) (.int .i64 (e : Int)) (.int .u64 (z3.toNat : Int)) (fun wx ρ hwx h0 h1 hc => shl64 rfl z2 e he64 HZ3.out ρ wx h0 h1) ?_; refine lxT (.tmp 11) (.tmp 17) (.int .u64 z1.toNat) (.int .u64 (z3.toNat : Int)) (.int .u64 (z4.toNat : Int)) (fun wx ρ hwx h0 h1 hc => by simp [h0, h1, go_sem, HX4.out]) ?_; refine lxR (.tmp 6) (.pointer (some ⟨b, 0, none⟩)) (.pointer (some ⟨b, 0, none⟩)) (fun wx ρ hwx h0 hc => by simp [go_sem, h0]) ?_; refine lxT (.tmp 19) (.tmp 8) (.pointer (some ⟨b, 0, none⟩)) (.int .i64 (k : Int)) (.pointer (some ⟨b, k, none⟩)) (fun wx ρ hwx h0 h1 hc => Kec.idx25 rfl k hk25 b ρ wx h0 h1) ?_
 refine wpL_end (by kernel_rfl) (fun wd hwd => ?_)
 simp only [FinL, setL, List.set_cons_zero, List.set_cons_succ]
 intro _
 have cp := HC1.out wd hwd
 have fp := HF1.out wd hwd
 have HWD := Lib.hid hwd
 clear hwd HC1 HF1 HX4 HZ2 HZ3
 go_wp2
 go_end0
 exact ⟨rfl, wd, HWD.out, rfl⟩
set_option maxHeartbeats 800000 in
theorem frontK_any (s : KecM.St) (hs : s.length = 25) (w : World) : Calls Tryz.prog 71 #[.agg (s.map u64V).toArray] w fun e w' => e = .returned (.agg ((squeeze s).map byteV).toArray) /\ Below w.heap.size w w' := by
 have SL := Lib.hid hs
 clear hs
 go_enter Tryz.func71, Tryz.ntmps71
 go_wp2
 have hst := A8.box (A8.box (A64.box (Own.St.start w) 129 s) 47 (List.replicate 32 0)) 47 (List.replicate 32 0)
 simp only [size_alloc'] at hst
 change Code.wp _ _ _ _ (((w.alloc (.cells (s.map u64V).toArray 129)).alloc (.cells ((List.replicate 32 (0 : UInt8)).map byteV).toArray 47)).alloc (.cells ((List.replicate 32 (0 : UInt8)).map byteV).toArray 47))
 generalize ((w.alloc (.cells (s.map u64V).toArray 129)).alloc (.cells ((List.replicate 32 (0 : UInt8)).map byteV).toArray 47)).alloc (.cells ((List.replicate 32 (0 : UInt8)).map byteV).toArray 47) = W1 at hst ⊢
 obtain ⟨bs, hbs⟩ : ∃ b, b = w.heap.size := ⟨_, rfl⟩
 obtain ⟨br, hbr⟩ : ∃ b, b = w.heap.size + 1 := ⟨_, rfl⟩
 obtain ⟨bd, hbd⟩ : ∃ b, b = w.heap.size + 1 + 1 := ⟨_, rfl⟩
 rw [<- hbd, <- hbr] at hst ⊢
 have HD : Hid (Own.St w.heap.size w W1 [A8 bd 47 (sqTo s 0), A8 br 47 (List.replicate 32 0), A64 bs 129 s]) := by rw [hbs, sqTo_zero]; exact hst
 rw [<- hbs]
 clear hst hbs hbr hbd
 go_loopw [5] (fun v wr => ∃ i : Nat, i <= 32 /\ v = .int .i64 (i : Int) /\ Own.St w.heap.size w wr [A8 bd 47 (sqTo s i), A8 br 47 (List.replicate 32 0), A64 bs 129 s]) (fun v _ => 32 - (intOf v).toNat)
 case atStart => exact ⟨0, Nat.zero_le _, rfl, HD.out⟩
 case round =>
  obtain ⟨i, hi32, rfl, G⟩ := hrel
  have G := Lib.hid G
  clear HD
  by_cases hi : (i : Int) < 32
  · have hin : i < 32 := by omega
    obtain ⟨q, hq⟩ : ∃ q, q = i / 8 := ⟨_, rfl⟩
    obtain ⟨r, hr⟩ : ∃ r, r = i % 8 := ⟨_, rfl⟩
    obtain ⟨e, he⟩ : ∃ e, e = 8 * r := ⟨_, rfl⟩
    have hqi : (i : Int) / 8 = (q : Int) := by omega
    have hri : (i : Int) % 8 = (r : Int) := by omega
    have hei : 8 * (r : Int) = (e : Int) := by omega
    have hq25 : (q : Int) < 25 := by omega
    have hr8 : r < 8 := by omega
    have he64 : e < 64 := by omega
    obtain ⟨z1, hz1⟩ : ∃ z, z = s.getD q 0 := ⟨_, rfl⟩
    obtain ⟨c, hc⟩ : ∃ c, c = SpoM.byteOf s i := ⟨_, rfl⟩
    have hz1b : z1.toNat < 18446744073709551616 := z1.isLt
    have hcv : ((z1.toNat : Int) / 2 ^ e) % 256 = (c.toNat : Int) := by
     rw [hc]
     unfold SpoM.byteOf
     rw [<- hq, <- hr, <- he, <- hz1]
     simp
    have cz := (A64.cell G.out 2 rfl q (by rw [SL.out]; omega) hz1.symm).1
    obtain ⟨cd, fd⟩ := A8.cell G.out 0 rfl i (by rw [sqTo_len]; exact hin)
    have PUT : Hid (Own.St w.heap.size w (wr.setCell ⟨bd, i, none⟩ (.int .u8 (c.toNat : Int))) [A8 bd 47 (sqTo s (i + 1)), A8 br 47 (List.replicate 32 0), A64 bs 129 s]) := by
     have h := A8.store G.out 0 rfl i c
     rw [hc, sqTo_set] at h
     rw [hc]
     exact h
    clear hq hr he hz1 hc G
    go_wp2
    go_roundw
    case rel => exact ⟨i + 1, by omega, by go_num, PUT.out⟩
    case measure => simp [intOf]; omega
  · obtain ⟨rs, hrs⟩ : ∃ r, r = squeeze s := ⟨_, rfl⟩
    have LR : Hid (rs.length = 32) := by rw [hrs]; exact squeeze_len _
    have H5 : Hid (Own.St w.heap.size w wr [A8 bd 47 rs, A8 br 47 (List.replicate 32 0), A64 bs 129 s]) := by
     have h := G.out
     rw [show i = 32 by omega, sqTo_all, <- hrs] at h
     exact h
    have HRS := Lib.hid hrs
    clear hrs G hi32
    have LAST := Lib.hid (A8.setAll H5.out 1 rfl rs (by rw [LR.out]; rfl))
    have ROW := Lib.hid (A8.row H5.out 0 rfl)
    have THERE := Lib.hid (A8.there H5.out 1 rfl rs (by rw [LR.out]; rfl))
    have INFO2 := Lib.hid (info_sum rs LR.out)
    have ONE := Lib.hid (one8 rs)
    go_wp2_with (first
     | (refine wpList_load_row rfl 47 (.tmp 3) rfl bd rfl 47 _ (0, 0) _ ROW.out Tryz.underlying47 rfl INFO2.out ?_)
     | (refine wpList_store_mid rfl 47 (.tmp 2) (.tmp 20) rfl br 0 (rs.map byteV).toArray rfl rfl THERE.out INFO2.out ONE.out ?_))
    have END := Lib.hid (A8.row LAST.out 1 rfl)
    refine bodyPost_ret (results_cell_row rfl _ _ br 47 _ (0, 0) _ rfl END.out Tryz.underlying47 rfl INFO2.out) rfl ?_
    refine ⟨?_, LAST.out.below⟩
    rw [HRS.out]
end Spo
end Go.Proofs.YtahjjcmeocibbaaGreatDoor
end
section
namespace Go.Own
open Go.RowKit
theorem block_setCells {b : Nat} {t : TypeId} : ∀ (r pre mid post : List Value) (w : World), w.heap[b]? = some (.cells (pre ++ mid ++ post).toArray t (0, 0)) -> mid.length = r.length ->
 (w.setCells b pre.length r).heap[b]? = some (.cells (pre ++ r ++ post).toArray t (0, 0)) /\ Step (fun k => k = b) (fun k => k = b) w (w.setCells b pre.length r)
 | [], pre, mid, post, w, hb, hl => by
  obtain rfl : mid = [] := List.eq_nil_of_length_eq_zero (by simpa using hl)
  exact ⟨hb, Step.refl _ _⟩
 | v :: r, pre, [], post, w, hb, hl => by simp at hl
 | v :: r, pre, m :: mid, post, w, hb, hl => by
  have h1 : (w.setCell ⟨b, pre.length, none⟩ v).heap[b]? = some (.cells ((pre ++ [v]) ++ mid ++ post).toArray t (0, 0)) := by
   rw [block_setCell hb]
   congr 2
   apply Array.ext'
   simp
  have h2 := block_setCells r (pre ++ [v]) mid post _ h1 (by simpa using hl)
  rw [List.length_append] at h2
  have e : pre ++ v :: r ++ post = (pre ++ [v]) ++ r ++ post := by simp
  rw [e]
  exact ⟨h2.1, ((Step.refl (fun k => k = b) w).setCell (a := ⟨b, pre.length, none⟩) (Or.inl rfl) v).trans h2.2⟩
end Go.Own
namespace Go.Proofs.YtahjjcmeocibbaaGreatDoor
open Go.RowKit Go.Own
namespace Spo
open Go.KecM Go.SpoM Byt
open Kec (A64 u64V info_lanes one_cells)
def stVs (q : KecM.St × Nat) : List Value := q.1.map u64V ++ [.int .i64 (q.2 : Int)]
def AStt (p : Nat) (q : KecM.St × Nat) : Asn := AVals p 131 (stVs q)
section
variable {p : Nat} {q : KecM.St × Nat} {S : Nat -> Prop} {w : World}
theorem stt_block (h : (AStt p q).holds S w) : w.heap[p]? = some (.cells (stVs q).toArray 131 (0, 0)) := h.1
theorem stt_set (h : (AStt p q).holds S w) : ∀ k, S k ↔ k = p := h.2
theorem stt_word (h : (AStt p q).holds S w) (hl : q.1.length = 25) (k : Nat) (hk : k < 25) {v : KecM.W} (hv : q.1.getD k 0 = v) : w.cell? ⟨p, k, none⟩ = some (.int .u64 (v.toNat : Int)) /\ w.frozen? ⟨p, k, none⟩ = false := by
 refine ⟨cell_of_block (stt_block h) ?_, frozen_of_block (stt_block h)⟩
 have hk2 : k < q.1.length := by omega
 simp [stVs, List.getElem?_append_left, hk2, u64V, <- hv]
theorem stt_at (h : (AStt p q).holds S w) (hl : q.1.length = 25) : w.cell? ⟨p, 25, none⟩ = some (.int .i64 (q.2 : Int)) /\ w.frozen? ⟨p, 25, none⟩ = false := by
 refine ⟨cell_of_block (stt_block h) ?_, frozen_of_block (stt_block h)⟩
 simp [stVs, hl]
theorem stt_setWord (h : (AStt p q).holds S w) (hl : q.1.length = 25) (k : Nat) (hk : k < 25) (v : KecM.W) :
 (AStt p (q.1.set k v, q.2)).holds S (w.setCell ⟨p, k, none⟩ (.int .u64 (v.toNat : Int))) /\ Step S S w (w.setCell ⟨p, k, none⟩ (.int .u64 (v.toNat : Int))) := by
 refine ⟨⟨?_, h.2⟩, (Step.refl S w).setCell (a := ⟨p, k, none⟩) (Or.inl ((h.2 p).2 rfl)) _⟩
 rw [block_setCell (stt_block h)]
 congr 2
 apply Array.ext'
 have hk2 : k < q.1.length := by omega
 simp [stVs, hk2, List.map_set, u64V]
theorem stt_setAt (h : (AStt p q).holds S w) (hl : q.1.length = 25) (n : Nat) :
 (AStt p (q.1, n)).holds S (w.setCell ⟨p, 25, none⟩ (.int .i64 (n : Int))) /\ Step S S w (w.setCell ⟨p, 25, none⟩ (.int .i64 (n : Int))) := by
 refine ⟨⟨?_, h.2⟩, (Step.refl S w).setCell (a := ⟨p, 25, none⟩) (Or.inl ((h.2 p).2 rfl)) _⟩
 rw [block_setCell (stt_block h)]
 congr 2
 apply Array.ext'
 simp [stVs, hl]
theorem stt_setAll (h : (AStt p q).holds S w) (hl : q.1.length = 25) (rs : List KecM.W) (hr : rs.length = 25) :
 (AStt p (rs, q.2)).holds S (w.setCells p 0 (rs.map u64V).toArray.toList) /\ Step S S w (w.setCells p 0 (rs.map u64V).toArray.toList) := by
 have h1 := block_setCells (b := p) (rs.map u64V) [] (q.1.map u64V) [.int .i64 (q.2 : Int)] w (by simpa [stVs] using stt_block h) (by simp [hl, hr])
 have e : S = fun k => k = p := funext fun k => propext (h.2 k)
 rw [e]
 exact ⟨⟨by simpa [stVs] using h1.1, fun _ => Iff.rfl⟩, h1.2⟩
theorem stt_range (h : (AStt p q).holds S w) (hl : q.1.length = 25) : w.rangeAt p 0 (q.1.map u64V) := fun j v hv => by
 have hj := (List.getElem?_eq_some_iff.1 hv).1
 rw [List.length_map] at hj
 rw [Nat.zero_add]
 refine cell_of_block (stt_block h) ?_
 rw [List.getElem?_toArray, stVs, List.getElem?_append_left (by simpa using hj)]
 exact hv
theorem stt_there (h : (AStt p q).holds S w) (hl : q.1.length = 25) (rs : List KecM.W) (hr : rs.length = 25) : w.there p 0 (rs.map u64V).toArray.size := fun j hj => by
 have hj2 : j < 25 := by simpa [hr] using hj
 obtain ⟨h1, h2⟩ := stt_word h hl j hj2 rfl
 rw [Nat.zero_add]
 exact ⟨by rw [h1]; rfl, h2⟩
end
theorem stt_later {p : Nat} {q : KecM.St × Nat} {S : Nat -> Prop} {w w' : World} (h : (AStt p q).holds S w) (g : Below w.heap.size w w') : (AStt p q).holds S w' /\ Step S S w w' :=
 ⟨⟨(g.block _ (lt_of_block (stt_block h))).trans (stt_block h), h.2⟩, ⟨g.os, g.tape, g.output, g.size, fun k hk _ => g.block k hk, fun _ h => .inl h⟩⟩
theorem newK_any (w : World) : Calls Tryz.prog 31 #[] w fun e w' => ∃ p S, e = .returned (.pointer (some ⟨p, 0, none⟩)) /\ (AStt p (zeroSt, 0)).holds S w' /\ Step (fun _ => False) S w w' := by
 have HN : Hid (∃ S, (AStt w.heap.size (zeroSt, 0)).holds S (w.alloc (.cells (stVs (zeroSt, 0)).toArray 131)) /\ Step (fun _ => False) S w (w.alloc (.cells (stVs (zeroSt, 0)).toArray 131))) :=
  ⟨fun k => k = w.heap.size, ⟨heap_alloc_new w _, fun _ => Iff.rfl⟩, ((Step.refl (fun _ => False) w).alloc _).to (fun k hk => .inr (Nat.le_of_eq hk.symm))⟩
 go_enter Tryz.func31, Tryz.ntmps31
 go_wp2
 go_ret
 obtain ⟨S, h1, h2⟩ := HN.out
 exact ⟨w.heap.size, S, rfl, h1, h2⟩
end Spo
end Go.Proofs.YtahjjcmeocibbaaGreatDoor
end
section
namespace Go.Proofs.YtahjjcmeocibbaaGreatDoor
open Go.RowKit Go.Own
namespace Spo
open Go.KecM Go.SpoM Byt
open Kec (A64 u64V info_lanes one_cells)
theorem feed_next (q : KecM.St × Nat) (x : List UInt8) (j : Nat) (h : j < x.length) : feed q (x.take (j + 1)) = feed1 (feed q (x.take j)) (x.getD j 0) := by
 rw [take_succ' x j h, feed_append]; rfl
theorem feed1_full {s : KecM.St} {a : Nat} (h : a = 135) (c : UInt8) : feed1 (s, a) c = (perm 24 (xorAt s a c), 0) := by subst h; rfl
theorem feed1_part {s : KecM.St} {a : Nat} (h : a ≠ 135) (c : UInt8) : feed1 (s, a) c = (xorAt s a c, a + 1) := by unfold feed1; rw [if_neg h]
set_option maxHeartbeats 2000000 in
theorem writeK_any (W : World) (T : Kec.Tab W) (S D : Nat -> Prop) (p : Nat) (q : KecM.St × Nat) (ao : Option Addr) (x : List UInt8) (n cap : Nat) (w : World) (hW : Below W.heap.size W w) (hpW : W.heap.size <= p) (hS : (AStt p q).holds S w) (hq : q.1.length = 25) (hp : q.2 < 136)
 (hV : View w D ao x) (hd : Dis D S) (hn : x.length = n) (hl : n <= 10000000) :
 Calls Tryz.prog 32 #[.pointer (some ⟨p, 0, none⟩), .slice ao n cap] w fun e w' => e = .returned (.tuple #[]) /\ (AStt p (feed q x)).holds S w' /\ Step S S w w' := by
 have HN := Lib.hid hn
 have HS := Lib.hid hS
 have HV := Lib.hid hV
 have HD := Lib.hid hd
 have HQ := Lib.hid hq
 have HP := Lib.hid hp
 have TAB : Hid (∀ wx, Step S S w wx -> Kec.Tab wx) := fun wx hwx => T.later (hW.trans (hwx.below hW.size (fun k hk => by rw [(stt_set hS k).1 hk]; exact hpW)))
 clear hW hpW hS hq hp hV hd hn T
 go_enter Tryz.func32, Tryz.ntmps32
 go_wp2
 go_loopw [10] (fun v wr => ∃ j : Nat, j <= n /\ v = .int .i64 (j : Int) /\ (AStt p (feed q (x.take j))).holds S wr /\ Step S S w wr) (fun v _ => n - (intOf v).toNat)
 case atStart => exact ⟨0, Nat.zero_le _, rfl, HS.out, Step.refl _ _⟩
 case round =>
  obtain ⟨j, hj, rfl, G, hst⟩ := hrel
  have G := Lib.hid G
  have HST := Lib.hid hst
  clear HS hst
  by_cases hjn : (j : Int) < (n : Int)
  · have hjl : j < x.length := by rw [HN.out]; omega
    obtain ⟨b, o, rfl, _, _, hcell⟩ := vat (HV.out.step HST.out HD.out) hjl
    obtain ⟨c, hc⟩ : ∃ c, c = x.getD j 0 := ⟨_, rfl⟩
    rw [<- hc] at hcell
    obtain ⟨s1, hs1⟩ : ∃ s, s = (feed q (x.take j)).1 := ⟨_, rfl⟩
    obtain ⟨a1, ha1⟩ : ∃ a, a = (feed q (x.take j)).2 := ⟨_, rfl⟩
    have hqe : feed q (x.take j) = (s1, a1) := by rw [hs1, ha1]
    have L1 : Hid (s1.length = 25) := by show s1.length = 25; rw [hs1]; exact feed_len _ _ HQ.out
    have ha : a1 < 136 := by rw [ha1]; exact (feed_pos _ _ HP.out).2
    have HNEXT : Hid (feed q (x.take (j + 1)) = feed1 (s1, a1) c) := by
     show feed q (x.take (j + 1)) = feed1 (s1, a1) c
     rw [feed_next q x j hjl, hqe, <- hc]
    rw [hqe] at G
    obtain ⟨k, hk⟩ : ∃ k, k = a1 / 8 := ⟨_, rfl⟩
    have hk25 : k < 25 := by omega
    obtain ⟨z1, hz1⟩ : ∃ z, z = s1.getD k 0 := ⟨_, rfl⟩
    obtain ⟨z4, hz4⟩ : ∃ z, z = z1 ^^^ (BitVec.ofNat 64 c.toNat <<< (8 * (a1 % 8))) := ⟨_, rfl⟩
    obtain ⟨s2, hs2⟩ : ∃ s, s = s1.set k z4 := ⟨_, rfl⟩
    have HS2 : Hid (xorAt s1 a1 c = s2) := by
     show xorAt s1 a1 c = s2
     rw [hs2, hz4, hz1, hk]; rfl
    have L2 : Hid (s2.length = 25) := by show s2.length = 25; rw [hs2, List.length_set]; exact L1.out
    have HAT : Hid (∀ wx, Below wr.heap.size wr wx -> wx.cell? ⟨p, 25, none⟩ = some (.int .i64 (a1 : Int))) := fun wx hwx => (stt_at (stt_later G.out hwx).1 L1.out).1
    have CMIX : Hid (∀ wx, Below wr.heap.size wr wx -> Calls Tryz.prog 69 #[.pointer (some ⟨p, 0, none⟩), .int .i64 a1, .int .u8 c.toNat] wx fun e w' => e = .returned (.tuple #[]) /\ (AStt p (s2, a1)).holds S w' /\ Step S S wr w') := by
     intro wx hwx
     have g := stt_later G.out hwx
     obtain ⟨h1, h2⟩ := stt_word g.1 L1.out k hk25 hz1.symm
     refine (mixK_any p a1 ha c hz4 k hk wx h1 h2).mono ?_
     rintro e w' ⟨he, wd, hwd, rfl⟩
     have g2 := stt_later g.1 hwd
     have g3 := stt_setWord g2.1 L1.out k hk25 z4
     rw [hs2]
     exact ⟨he, g3.1, g.2.trans (g2.2.trans g3.2)⟩
    have HPR : Hid (AStt p (s1, a1) = AStt p (s1, a1)) := rfl
    clear hqe hs1 ha1 hk hz1 hz4 hs2 hc
    go_wp2_with (fail)
    refine wp_laxW_list 8 (by kernel_rfl) (by kernel_rfl) (by kernel_rfl) (by kernel_rfl) (by kernel_rfl) ?_
    simp only [List.take_succ_cons, List.take_zero, List.drop_succ_cons, List.drop_zero]
    refine lxM (.pointer (some ⟨p, 0, none⟩)) rfl ?_; refine lxR (.tmp 14) (.pointer (some ⟨p, 0, none⟩)) (.pointer (some ⟨p, 0, none⟩)) (fun wx ρ hwx h0 hc => by simp [go_sem, h0]) ?_; refine lxR (.tmp 15) (.pointer (some ⟨p, 0, none⟩)) (.pointer (some ⟨p, 0, none⟩)) (fun wx ρ hwx h0 hc => by simp [go_sem, h0]) ?_; refine lxM (.pointer (some ⟨p, 0, none⟩)) rfl ?_; refine lxR (.tmp 17) (.pointer (some ⟨p, 0, none⟩)) (.pointer (some ⟨p, 0, none⟩)) (fun wx ρ hwx h0 hc => by simp [go_sem, h0]) ?_; refine lxR (.tmp 18) (.pointer (some ⟨p, 0, none⟩)) (.pointer (some ⟨p, 25, none⟩)) (fun wx ρ hwx h0 hc => by simp [go_sem, h0]) ?_; refine lxR (.tmp 19) (.pointer (some ⟨p, 25, none⟩)) (.int .i64 (a1 : Int)) (fun wx ρ hwx h0 hc => by simp [go_sem, h0, HAT.out wx hwx]) ?_; refine lxM (.int .u8 (c.toNat : Int)) rfl ?_
    refine wpL_end (by kernel_rfl) (fun wd hwd => ?_)
    simp only [FinL, setL, List.set_cons_zero, List.set_cons_succ]
    intro _
    have HWD := Lib.hid hwd
    clear hwd
    go_wp2_with (fail)
    refine (CMIX.out wd HWD.out).mono ?_
    rintro e w2 ⟨rfl, hG2, hst2⟩
    have G2 := Lib.hid hG2
    have ST2 := Lib.hid (HST.out.trans hst2)
    clear hG2 hst2 CMIX HWD HAT G HST
    obtain ⟨c25, f25⟩ := stt_at G2.out L2.out
    have HG3 := stt_setAt G2.out L2.out (a1 + 1)
    have e1 : ((a1 + 1 : Nat) : Int) = (a1 : Int) + 1 := by simp
    rw [e1] at HG3
    have G3 := Lib.hid HG3.1
    have ST3 := Lib.hid (ST2.out.trans HG3.2)
    clear HG3 e1
    by_cases h135 : a1 = 135
    · have HA := Lib.hid h135
      have hgo : ((a1 : Int) + 1 == 136) = true := by simp; omega
      obtain ⟨rs, hrs⟩ : ∃ r, r = perm 24 s2 := ⟨_, rfl⟩
      have LR : Hid (rs.length = 25) := by rw [hrs]; exact perm_len _ _ L2.out
      have HPERM : Hid (∀ wx, Step S S w wx -> Calls Tryz.prog 70 #[.agg (s2.map u64V).toArray] wx fun e w' => e = .returned (.agg (rs.map u64V).toArray) /\ Below wx.heap.size wx w') := by
       intro wx hwx
       rw [hrs]
       exact Kec.permK_any s2 L2.out wx (TAB.out wx hwx)
      have HF : Hid (feed1 (s1, a1) c = (rs, 0)) := by
       show feed1 (s1, a1) c = (rs, 0)
       rw [feed1_full h135, HS2.out, hrs]
      have RNG := Lib.hid (stt_range G3.out L2.out)
      have INF : Hid ((Tryz.prog.info? 129).map (·.size) = some (s2.map u64V).length) := by
       have h := info_lanes s2 L2.out
       show (Tryz.prog.info? 129).map (·.size) = some (s2.map u64V).length
       simpa using h
      clear h135 hrs
      go_wp2_with (refine wpList_load_mid rfl 129 (.tmp 38) rfl p 0 rfl (s2.map u64V) _ RNG.out Tryz.underlying129 rfl INF.out ?_)
      refine (HPERM.out _ ST3.out).mono ?_
      rintro e w4 ⟨rfl, hw4⟩
      have g4 := stt_later G3.out hw4
      have G4 := Lib.hid g4.1
      have ST4 := Lib.hid (ST3.out.trans g4.2)
      clear g4 hw4 RNG INF HPERM G3 ST3
      have g5 := stt_setAll G4.out L2.out rs LR.out
      have G5 := Lib.hid g5.1
      have ST5 := Lib.hid (ST4.out.trans g5.2)
      have THERE := Lib.hid (stt_there G4.out L2.out rs LR.out)
      have INF2 := Lib.hid (info_lanes rs LR.out)
      have ONE := Lib.hid (one_cells rs)
      obtain ⟨d25, e25⟩ := stt_at G5.out LR.out
      have g6 := stt_setAt G5.out LR.out 0
      have G6 : Hid ((AStt p (rs, 0)).holds S ((w4.setCells p 0 (rs.map u64V).toArray.toList).setCell ⟨p, 25, none⟩ (.int .i64 0))) := g6.1
      have ST6 : Hid (Step S S w ((w4.setCells p 0 (rs.map u64V).toArray.toList).setCell ⟨p, 25, none⟩ (.int .i64 0))) := ST5.out.trans g6.2
      clear g5 g6 G4 ST4 G5 ST5
      go_wp2_with (refine wpList_store_mid rfl 129 (.tmp 42) (.tmp 40) rfl p 0 (rs.map u64V).toArray rfl rfl THERE.out INF2.out ONE.out ?_)
      go_roundw
      case rel =>
       refine ⟨j + 1, by omega, by go_num, ?_, ST6.out⟩
       rw [HNEXT.out, HF.out]
       exact G6.out
      case measure => simp [intOf]; omega
    · have hgo : ((a1 : Int) + 1 == 136) = false := by simp; omega
      have HF : Hid (feed1 (s1, a1) c = (s2, a1 + 1)) := by
       show feed1 (s1, a1) c = (s2, a1 + 1)
       rw [feed1_part h135, HS2.out]
      clear h135
      go_wp2
      go_roundw
      case rel =>
       refine ⟨j + 1, by omega, by go_num, ?_, ST3.out⟩
       rw [HNEXT.out, HF.out]
       exact G3.out
      case measure => simp [intOf]; omega
  · have HJ : Hid (x.take j = x) := by
     show x.take j = x
     exact List.take_of_length_le (by rw [HN.out]; omega)
    go_wp2
    go_end0
    refine ⟨rfl, ?_, HST.out⟩
    have h := G.out
    rw [HJ.out] at h
    exact h
end Spo
end Go.Proofs.YtahjjcmeocibbaaGreatDoor
end
section
namespace Go.Proofs.YtahjjcmeocibbaaGreatDoor
open Go.RowKit Go.Own
namespace Spo
open Go.KecM Go.SpoM Byt
def RetYes (w : World) (e : Ending) (w' : World) : Prop := e = .returned (.bool true) /\ Below w.heap.size w w'
abbrev sumV (l : List UInt8) : Value := .agg ((sha l).map byteV).toArray
def PartsAt (w : World) (v : Value) (ls : List (List UInt8)) : Prop :=
 (v = .slice none 0 0 /\ ls = []) \/ ∃ b cap, v = .slice (some ⟨b, 0, none⟩) ls.length cap /\ b < w.heap.size /\ ∀ j, j < ls.length -> ∃ ao c, w.cell? ⟨b, j, none⟩ = some (.slice ao (ls.getD j []).length c) /\ View w (fun k => k < w.heap.size) ao (ls.getD j []) /\ (ls.getD j []).length <= c /\ c <= maxLen /\ (ao = none -> c = 0)
structure Kept (W : World) : Type where
 all : ∀ v ls w, Below W.heap.size W w -> PartsAt w v ls -> ls.flatten.length <= 10000000 -> ls.length <= 1000 -> Calls Tryz.prog 11 #[v] w fun e w' => e = .returned (sumV ls.flatten) /\ Below w.heap.size w w'
theorem parts_one {w : World} {ao : Option Addr} {x : List UInt8} {n cap : Nat} (hV : View w (fun k => k < w.heap.size) ao x) (hn : x.length = n) (h1 : n <= cap) (h2 : cap <= maxLen) (h3 : ao = none -> cap = 0) (t : TypeId) :
 PartsAt (w.alloc (.cells #[.slice ao n cap] t)) (.slice (some ⟨w.heap.size, 0, none⟩) 1 1) [x] := by
 subst hn
 refine .inr ⟨w.heap.size, 1, rfl, by simp, fun j hj => ?_⟩
 have hj0 : j = 0 := by simpa using hj
 subst hj0
 refine ⟨ao, cap, cell_of_block (heap_alloc_new w _) rfl, ?_, h1, h2, h3⟩
 have hb : Below w.heap.size w (w.alloc (.cells #[.slice ao x.length cap] t)) := ((Own.St.start w).alloc _).below
 exact (vlater hV hb).mono (fun k hk => by simp; omega)
theorem PartsAt.later {w w' : World} {v : Value} {ls : List (List UInt8)} (h : PartsAt w v ls) (g : Below w.heap.size w w') : PartsAt w' v ls := by
 rcases h with h | ⟨b, cap, hv, hb, hc⟩
 · exact .inl h
 · refine .inr ⟨b, cap, hv, Nat.lt_of_lt_of_le hb g.size, fun j hj => ?_⟩
   obtain ⟨ao, c, h1, h2, h3, h4, h5⟩ := hc j hj
   exact ⟨ao, c, (World.cell?_of_block (w := w) (g.block b hb)).trans h1, (vlater h2 g).mono (fun k hk => Nat.lt_of_lt_of_le hk g.size), h3, h4, h5⟩
def partsTy (ls : List (List UInt8)) : Ty := ⟨fun v w => PartsAt w v ls, fun h g => h.later g⟩
theorem build1 {o : Oper} {x : Operand} (ho : o.op = .buildSlice 69 1 #[(0, x)]) (ρ : Operand -> Value) {ao : Option Addr} {l : List UInt8} {n c : Nat} (hx : ρ x = .slice ao n c) (w : World) (hV : View w (fun k => k < w.heap.size) ao l) (hn : l.length = n) (h1 : n <= c) (h2 : c <= maxLen) (h3 : ao = none -> c = 0) :
 ∃ v w', (execOp ρ o).run Tryz.prog w = .ok (.value v) w' /\ (partsTy [l]).holds v w' /\ Below w.heap.size w w' := by
 refine ⟨.slice (some ⟨w.heap.size, 0, none⟩) 1 1, w.alloc (.cells #[.slice ao n c] 37), ?_, parts_one hV hn h1 h2 h3 _, ((Own.St.start w).alloc _).below⟩
 simp [execOp, ho, hx, go_sem]
end Spo
end Go.Proofs.YtahjjcmeocibbaaGreatDoor
end
section
namespace Go.Proofs.YtahjjcmeocibbaaGreatDoor
open Go.RowKit Go.Own
namespace Spo
open Go.KecM Go.SpoM Byt
open Kec (A64 u64V info_lanes one_cells)
theorem load_i64 {o : Oper} {x : Operand} (ho : o.op = .load 3 x) {ad : Addr} {v : Int} {w : World} (hc : w.cell? ad = some (.int .i64 v)) {ρ : Operand -> Value} (h0 : ρ x = .pointer (some ad)) : (execOp ρ o).run Tryz.prog w = .ok (.value (.int .i64 v)) w := by
 simp [execOp, ho, h0, go_sem, hc]
set_option maxRecDepth 10000 in
set_option maxHeartbeats 2000000 in
theorem sumK_any (W : World) (T : Kec.Tab W) (S : Nat -> Prop) (p : Nat) (q : KecM.St × Nat) (w : World) (hW : Below W.heap.size W w) (hS : (AStt p q).holds S w) (hq : q.1.length = 25) (hp : q.2 < 136) :
 Calls Tryz.prog 33 #[.pointer (some ⟨p, 0, none⟩)] w fun e w' => e = .returned (.agg ((squeeze (fin q)).map byteV).toArray) /\ Below w.heap.size w w' := by
 obtain ⟨s0, a0⟩ := q
 have L0 : Hid (s0.length = 25) := hq
 have hp' : a0 < 136 := hp
 have HS := Lib.hid hS
 have TAB : Hid (∀ wx, Below w.heap.size w wx -> Kec.Tab wx) := fun wx hwx => T.later (hW.trans (hwx.mono hW.size))
 have HSX : Hid (∀ wx, Below w.heap.size w wx -> (AStt p (s0, a0)).holds S wx) := fun wx hwx => (stt_later HS.out hwx).1
 obtain ⟨s1, hs1⟩ : ∃ s, s = xorAt s0 a0 6 := ⟨_, rfl⟩
 obtain ⟨s2, hs2⟩ : ∃ s, s = xorAt s1 135 128 := ⟨_, rfl⟩
 obtain ⟨s3, hs3⟩ : ∃ s, s = perm 24 s2 := ⟨_, rfl⟩
 obtain ⟨rs, hrs⟩ : ∃ r, r = squeeze s3 := ⟨_, rfl⟩
 have L1 : Hid (s1.length = 25) := by show s1.length = 25; rw [hs1, xorAt_len]; exact L0.out
 have L2 : Hid (s2.length = 25) := by show s2.length = 25; rw [hs2, xorAt_len]; exact L1.out
 have L3 : Hid (s3.length = 25) := by rw [hs3]; exact perm_len _ _ L2.out
 have LR : Hid (rs.length = 32) := by rw [hrs]; exact squeeze_len _
 have HRS : Hid (rs = squeeze (fin (s0, a0))) := by
  show rs = squeeze (fin (s0, a0))
  rw [hrs, hs3, hs2, hs1]; rfl
 have CM : ∀ (l i : Nat) (c : UInt8) (s t : KecM.St), s.length = 25 -> i < 136 -> t = xorAt s i c -> ∀ (Ps : List Asn) (wx : World), Own.St w.heap.size w wx (A64 l 129 s :: Ps) ->
  Calls Tryz.prog 69 #[.pointer (some ⟨l, 0, none⟩), .int .i64 i, .int .u8 c.toNat] wx fun e w' => e = .returned (.tuple #[]) /\ Own.St w.heap.size w w' (A64 l 129 t :: Ps) := by
  intro l i c s t hs hi ht Ps wx H
  obtain ⟨h1, h2⟩ := A64.cell H 0 rfl (i / 8) (by omega) rfl
  refine (mixK_any l i hi c rfl (i / 8) rfl wx h1 h2).mono ?_
  rintro e w' ⟨he, wd, hwd, rfl⟩
  have H2 := A64.store (H.later hwd) 0 rfl (i / 8) (s.getD (i / 8) 0 ^^^ (BitVec.ofNat 64 c.toNat <<< (8 * (i % 8))))
  refine ⟨he, ?_⟩
  rw [ht]
  exact H2
 have C1 := Lib.hid (fun l => CM l a0 6 s0 s1 L0.out hp' hs1)
 have C2 := Lib.hid (fun l => CM l 135 128 s1 s2 L1.out (by omega) hs2)
 have C3 : Hid (∀ wx, Below w.heap.size w wx -> Calls Tryz.prog 70 #[.agg (s2.map u64V).toArray] wx fun e w' => e = .returned (.agg (s3.map u64V).toArray) /\ Below wx.heap.size wx w') := fun wx hwx => by
  rw [hs3]; exact Kec.permK_any s2 L2.out wx (TAB.out wx hwx)
 have C4 : Hid (∀ wx, Calls Tryz.prog 71 #[.agg (s3.map u64V).toArray] wx fun e w' => e = .returned (.agg (rs.map byteV).toArray) /\ Below wx.heap.size wx w') := fun wx => by
  rw [hrs]; exact frontK_any s3 L3.out wx
 have INF : Hid ((Tryz.prog.info? 129).map (·.size) = some (s0.map u64V).length) := by
  have h := info_lanes s0 L0.out
  show (Tryz.prog.info? 129).map (·.size) = some (s0.map u64V).length
  simpa using h
 have I0 := Lib.hid (info_lanes s0 L0.out)
 have I2 := Lib.hid (info_lanes s2 L2.out)
 have O0 := Lib.hid (one_cells s0)
 have IR := Lib.hid (info_sum rs LR.out)
 have OR := Lib.hid (one8 rs)
 clear hW hS hq hp T CM hs1 hs2 hs3 hrs
 obtain ⟨br, hbr⟩ : ∃ b, b = w.heap.size := ⟨_, rfl⟩
 go_enter Tryz.func33, Tryz.ntmps33
 have H1 := Lib.hid (A8.box (Own.St.start w) 47 (List.replicate 32 0))
 have RNG := Lib.hid (stt_range (HSX.out _ H1.out.below) L0.out)
 obtain ⟨c25, _⟩ := stt_at HS.out L0.out
 have H2 := A64.box H1.out 129 (List.replicate 25 0)
 have ALL := Lib.hid (A64.setAll H2 0 rfl s0 (by rw [L0.out]; rfl))
 have THERE := Lib.hid (A64.there H2 0 rfl s0 (by rw [L0.out]; rfl))
 have D25 := Lib.hid (stt_at (HSX.out _ ALL.out.below) L0.out).1
 simp only [size_alloc'] at ALL THERE D25
 clear H2
 go_wp2_with (first
  | (refine wpList_load_mid rfl 129 (.tmp 9) rfl p 0 rfl (s0.map u64V) _ RNG.out Tryz.underlying129 rfl INF.out ?_)
  | (refine wpList_store_mid rfl 129 (.tmp 3) (.tmp 10) rfl (w.heap.size + 1) 0 (s0.map u64V).toArray rfl rfl THERE.out I0.out O0.out ?_)
  | (refine Byt.wpList_val rfl (load_i64 (x := .tmp 13) rfl D25.out rfl) ?_))
 refine (C1.out _ _ _ ALL.out).mono ?_
 rintro e wa ⟨rfl, ha⟩
 have GA := Lib.hid ha
 clear ha ALL THERE RNG D25 c25 H1
 go_wp2_with (fail)
 refine (C2.out _ _ _ GA.out).mono ?_
 rintro e wb ⟨rfl, hb⟩
 have GB := Lib.hid hb
 clear hb GA
 have ROW := Lib.hid (A64.row GB.out 0 rfl)
 go_wp2_with (refine wpList_load_row rfl 129 (.tmp 3) rfl (w.heap.size + 1) rfl 129 _ (0, 0) _ ROW.out Tryz.underlying129 rfl I2.out ?_)
 refine (C3.out wb GB.out.below).mono ?_
 rintro e wc ⟨rfl, hc⟩
 have GC := Lib.hid (GB.out.later hc)
 clear hc GB ROW
 go_wp2_with (fail)
 refine (C4.out wc).mono ?_
 rintro e wd ⟨rfl, hd⟩
 have GD := Lib.hid (GC.out.later hd)
 clear hd GC
 have LAST := Lib.hid (A8.setAll GD.out 1 rfl rs (by rw [LR.out]; rfl))
 have THERE := Lib.hid (A8.there GD.out 1 rfl rs (by rw [LR.out]; rfl))
 go_wp2_with (refine wpList_store_mid rfl 47 (.tmp 2) (.tmp 19) rfl w.heap.size 0 (rs.map byteV).toArray rfl rfl THERE.out IR.out OR.out ?_)
 have END := Lib.hid (A8.row LAST.out 1 rfl)
 refine bodyPost_ret (results_cell_row rfl _ _ w.heap.size 47 _ (0, 0) _ rfl END.out Tryz.underlying47 rfl IR.out) rfl ?_
 refine ⟨?_, LAST.out.below⟩
 rw [HRS.out]
def HK (W : World) (p : Nat) (a : List UInt8) (S : Nat -> Prop) (w : World) : Prop := (AStt p (feed (zeroSt, 0) a)).holds S w /\ W.heap.size <= p
theorem HK.keep {W : World} {p : Nat} {a : List UInt8} {S T U : Nat -> Prop} {w w' : World} (h : HK W p a S w) (g : Step T U w w') (hd : Dis S T) : HK W p a S w' := ⟨(AStt p _).keep h.1 g hd, h.2⟩
theorem HK.lt {W : World} {p : Nat} {a : List UInt8} {S : Nat -> Prop} {w : World} (h : HK W p a S w) : ∀ k, S k -> k < w.heap.size := (AStt p _).lt h.1
def AK (W : World) (p : Nat) (a : List UInt8) : Asn := ⟨HK W p a, HK.keep, HK.lt⟩
theorem feed0 (a : List UInt8) : (feed (zeroSt, 0) a).1.length = 25 /\ (feed (zeroSt, 0) a).2 < 136 := ⟨feed_len _ _ rfl, (feed_pos _ _ (by show 0 < 136; omega)).2⟩
theorem newH (W w : World) (hW : Below W.heap.size W w) : Calls Tryz.prog 31 #[] w fun e w' => ∃ p S, e = .returned (.pointer (some ⟨p, 0, none⟩)) /\ HK W p [] S w' /\ Step (fun _ => False) S w w' := by
 refine (newK_any w).mono ?_
 rintro e w' ⟨p, S, he, hS, hst⟩
 refine ⟨p, S, he, ⟨hS, ?_⟩, hst⟩
 rcases hst.new p ((stt_set hS p).2 rfl) with h | h
 · exact h.elim
 · exact Nat.le_trans hW.size h
theorem writeH (W : World) (T : Kec.Tab W) (S D : Nat -> Prop) (p : Nat) (a : List UInt8) (ao : Option Addr) (x : List UInt8) (n cap : Nat) (w : World) (hW : Below W.heap.size W w) (hS : HK W p a S w) (hV : View w D ao x) (hd : Dis D S) (hn : x.length = n) (hl : n <= 10000000) :
 Calls Tryz.prog 32 #[.pointer (some ⟨p, 0, none⟩), .slice ao n cap] w fun e w' => e = .returned (.tuple #[]) /\ HK W p (a ++ x) S w' /\ Step S S w w' := by
 refine (writeK_any W T S D p _ ao x n cap w hW hS.2 hS.1 (feed0 a).1 (feed0 a).2 hV hd hn hl).mono ?_
 rintro e w' ⟨he, h1, h2⟩
 rw [<- feed_append] at h1
 exact ⟨he, ⟨h1, hS.2⟩, h2⟩
theorem sumH (W : World) (T : Kec.Tab W) (S : Nat -> Prop) (p : Nat) (a : List UInt8) (w : World) (hW : Below W.heap.size W w) (hS : HK W p a S w) :
 Calls Tryz.prog 33 #[.pointer (some ⟨p, 0, none⟩)] w fun e w' => e = .returned (sumV a) /\ Below w.heap.size w w' :=
 sumK_any W T S p _ w hW hS.1 (feed0 a).1 (feed0 a).2
theorem parts_len {w : World} {v : Value} {ls : List (List UInt8)} (h : PartsAt w v ls) : ∃ ao cap, v = .slice ao ls.length cap := by
 rcases h with ⟨rfl, rfl⟩ | ⟨b, cap, rfl, _⟩
 · exact ⟨none, 0, rfl⟩
 · exact ⟨_, cap, rfl⟩
theorem take_flat (ls : List (List UInt8)) (j : Nat) (h : j < ls.length) : (ls.take (j + 1)).flatten = (ls.take j).flatten ++ ls.getD j [] := by
 rw [List.take_succ_eq_append_getElem h, List.flatten_append]
 simp [h]
theorem part_le (ls : List (List UInt8)) (j : Nat) (h : j < ls.length) : (ls.getD j []).length <= ls.flatten.length := by
 have e : ls.flatten = (ls.take (j + 1)).flatten ++ (ls.drop (j + 1)).flatten := by rw [<- List.flatten_append, List.take_append_drop]
 rw [take_flat ls j h] at e
 have := congrArg List.length e
 simp only [List.length_append] at this
 omega
set_option maxHeartbeats 2000000 in
theorem allH (W : World) (T : Kec.Tab W) (v : Value) (ls : List (List UInt8)) (w : World) (hW : Below W.heap.size W w) (hp : PartsAt w v ls) (hl : ls.flatten.length <= 10000000) (hln : ls.length <= 1000) :
 Calls Tryz.prog 11 #[v] w fun e w' => e = .returned (sumV ls.flatten) /\ Below w.heap.size w w' := by
 obtain ⟨n, hn⟩ : ∃ n, n = ls.length := ⟨_, rfl⟩
 obtain ⟨ao, cap, hv⟩ := parts_len hp
 rw [<- hn] at hv
 rw [<- hn] at hln
 subst hv
 have HN := Lib.hid hn
 have HPA : Hid (∀ j, j < ls.length -> ∃ b aj cj, ao = some ⟨b, 0, none⟩ /\ ∀ wx, Below w.heap.size w wx -> wx.cell? ⟨b, j, none⟩ = some (.slice aj (ls.getD j []).length cj) /\ View wx (fun k => k < w.heap.size) aj (ls.getD j [])) := by
  intro j hj
  rcases hp with ⟨_, h0⟩ | ⟨b, cap', hb, hbw, hc⟩
  · rw [h0] at hj; simp at hj
  simp only [Value.slice.injEq] at hb
  obtain ⟨aj, cj, hcell, hview, _, _, _⟩ := hc j hj
  exact ⟨b, aj, cj, hb.1, fun wx hwx => ⟨(World.cell?_of_block (w := w) (hwx.block b hbw)).trans hcell, vlater hview hwx⟩⟩
 have HB : Hid (∀ wx, Below w.heap.size w wx -> Below W.heap.size W wx) := fun wx hwx => hW.trans (hwx.mono hW.size)
 have HL := Lib.hid hl
 have TT := Lib.hid T
 clear hW hp hl hn T
 go_enter Tryz.func11, Tryz.ntmps11
 have H1 := Lib.hid (A8.box (Own.St.start w) 47 (List.replicate 32 0))
 go_wp2_with (fail)
 refine (newH W _ (HB.out _ H1.out.below)).mono ?_
 rintro e wa ⟨p, S, rfl, hS, hst⟩
 obtain ⟨br, hbr⟩ : ∃ b, b = w.heap.size := ⟨_, rfl⟩
 have G0 : Hid (Own.St w.heap.size w wa [AK W p (ls.take 0).flatten, A8 br 47 (List.replicate 32 0)]) := by
  rw [hbr]
  exact H1.out.new (AK W p []) hS hst
 rw [<- hbr]
 clear hS hst H1 hbr
 go_wp2_with (fail)
 go_loopw [9] (fun v wr => ∃ j : Nat, j <= n /\ v = .int .i64 (j : Int) /\ Own.St w.heap.size w wr [AK W p (ls.take j).flatten, A8 br 47 (List.replicate 32 0)]) (fun v _ => n - (intOf v).toNat)
 case atStart => exact ⟨0, Nat.zero_le _, rfl, G0.out⟩
 case round =>
  obtain ⟨j, hj, rfl, G⟩ := hrel
  have G := Lib.hid G
  clear G0
  by_cases hjn : (j : Int) < (n : Int)
  · have hjl : j < ls.length := by rw [<- HN.out]; omega
    obtain ⟨x, hx⟩ : ∃ x, x = ls.getD j [] := ⟨_, rfl⟩
    have HX : Hid ((ls.take (j + 1)).flatten = (ls.take j).flatten ++ x) := by
     show (ls.take (j + 1)).flatten = (ls.take j).flatten ++ x
     rw [take_flat ls j hjl, hx]
    have hxl : x.length <= 10000000 := by
     rw [hx]
     exact Nat.le_trans (part_le ls j hjl) HL.out
    obtain ⟨m, hm⟩ : ∃ m, x.length = m := ⟨_, rfl⟩
    obtain ⟨b, aj, cj, rfl, hc⟩ := HPA.out j hjl
    obtain ⟨hcell, hview⟩ := hc wr G.out.below
    rw [<- hx, hm] at hcell
    rw [<- hx] at hview
    have CW : Hid (Calls Tryz.prog 32 #[.pointer (some ⟨p, 0, none⟩), .slice aj m cj] wr fun e w' => e = .returned (.tuple #[]) /\ Own.St w.heap.size w w' [AK W p (ls.take (j + 1)).flatten, A8 br 47 (List.replicate 32 0)]) := by
     obtain ⟨S, hS, hSB, put⟩ := G.out.at 0 rfl
     refine (writeH W TT.out S (fun k => k < w.heap.size) p _ aj x m cj wr (HB.out _ G.out.below) hS hview (fun k hk h => by have := hSB k h; omega) hm (by rw [<- hm]; exact hxl)).mono ?_
     rintro e w' ⟨he, h1, h2⟩
     refine ⟨he, ?_⟩
     have h3 := put S w' (AK W p ((ls.take j).flatten ++ x)) h1 h2
     rw [<- HX.out] at h3
     exact h3
    clear hc hx hview
    go_wp2_with (fail)
    refine CW.out.mono ?_
    rintro e w2 ⟨rfl, H2⟩
    have G2 := Lib.hid H2
    clear H2 CW
    go_wp2
    go_roundw
    case rel => exact ⟨j + 1, by omega, by go_num, G2.out⟩
    case measure => simp [intOf]; omega
  · obtain ⟨rs, hrs⟩ : ∃ r, r = sha ls.flatten := ⟨_, rfl⟩
    have LR : Hid (rs.length = 32) := by rw [hrs]; exact sha_len _
    have HRS : Hid (sumV ls.flatten = .agg (rs.map byteV).toArray) := by rw [hrs]; exact rfl
    have HJ : Hid ((ls.take j).flatten = ls.flatten) := by
     show (ls.take j).flatten = ls.flatten
     rw [List.take_of_length_le (by rw [<- HN.out]; omega)]
    have CS : Hid (Calls Tryz.prog 33 #[.pointer (some ⟨p, 0, none⟩)] wr fun e w' => e = .returned (.agg (rs.map byteV).toArray) /\ Below wr.heap.size wr w') := by
     obtain ⟨S, hS, _⟩ := G.out.at 0 rfl
     have h := sumH W TT.out S p _ wr (HB.out _ G.out.below) hS
     rw [HJ.out, HRS.out] at h
     exact h
    have IR := Lib.hid (info_sum rs LR.out)
    have OR := Lib.hid (one8 rs)
    clear hrs
    go_wp2_with (fail)
    refine CS.out.mono ?_
    rintro e wd ⟨rfl, hd⟩
    have GD := Lib.hid (G.out.later hd)
    clear hd CS G
    have LAST := Lib.hid (A8.setAll GD.out 1 rfl rs (by rw [LR.out]; rfl))
    have THERE := Lib.hid (A8.there GD.out 1 rfl rs (by rw [LR.out]; rfl))
    go_wp2_with (refine wpList_store_mid rfl 47 (.tmp 2) (.tmp 18) rfl br 0 (rs.map byteV).toArray rfl rfl THERE.out IR.out OR.out ?_)
    have END := Lib.hid (A8.row LAST.out 1 rfl)
    refine bodyPost_ret (results_cell_row rfl _ _ br 47 _ (0, 0) _ rfl END.out Tryz.underlying47 rfl IR.out) rfl ?_
    refine ⟨?_, LAST.out.below⟩
    rw [HRS.out]
end Spo
end Go.Proofs.YtahjjcmeocibbaaGreatDoor
namespace Go.Proofs.YtahjjcmeocibbaaGreatDoor
open Go.RowKit Go.Own
namespace Spo
open Go.KecM Go.SpoM Byt
def kept (W : World) (T : Kec.Tab W) : Kept W where
 all v ls w h hp hl hn := allH W T v ls w h hp hl hn
end Spo
end Go.Proofs.YtahjjcmeocibbaaGreatDoor
end
section
namespace Go.Proofs.YtahjjcmeocibbaaGreatDoor
open Go.RowKit Go.Own
namespace Kec
open Go.KecM
def turnZs : List Int := [0, 1, 62, 28, 27, 36, 44, 6, 55, 20, 3, 10, 43, 25, 39, 41, 45, 15, 21, 8, 18, 2, 61, 56, 14]
theorem turnZs_eq : ∀ i : Fin 25, turnZs.getD i.val 0 = ((KecM.turns.getD i.val 0 : Nat) : Int) := by decide
theorem gTurns : Tryz.prog.globalNamed "pumice/keccak.turns" = some 0 := by kernel_rfl
theorem gTurnsT : (Tryz.prog.globals[0]?).map (·.type) = some 210 := by kernel_rfl
theorem tab_of_laid {W : World} (h : laidMetH Tryz.prog [("pumice/keccak.turns", Rows.laid_pumice_keccak_turns)] W) : Tab W := by
 rw [MakeChecks.laidMetH_plain _ _ _ (by kernel_rfl)] at h
 have h' : laidMet Tryz.prog (("pumice/keccak.turns", Lib.tabData .i64 turnZs) :: []) W := h
 have T := Lib.tabIs_of_head gTurns gTurnsT Tryz.underlying210 Tryz.underlying3 (by kernel_rfl) (by kernel_rfl) h'
 intro i hi
 rw [T.cell gTurns i hi, turnZs_eq ⟨i, hi⟩]
end Kec
end Go.Proofs.YtahjjcmeocibbaaGreatDoor
end
section
namespace Go.Proofs.YtahjjcmeocibbaaGreatDoor
open Go.RowKit Go.Own
namespace Spo
open Go.KecM Go.SpoM Byt
theorem neqSum {o : Oper} {x y : Tmp} (ho : o.op = .binOp .neq 47 (.tmp x) (.tmp y) 47) {s t : List UInt8} (hs : s.length = 32) (ht : t.length = 32) {v : Bool} (hv : decide (s = t) = v) (ρ : Operand -> Value) (w : World)
 (h0 : ρ (.tmp x) = .agg (s.map byteV).toArray) (h1 : ρ (.tmp y) = .agg (t.map byteV).toArray) : (execOp ρ o).run Tryz.prog w = .ok (.value (.bool (!v))) w := by
 have e0 : ∀ l : List UInt8, l.map byteV = (l.map (fun c => (c.toNat : Int))).map (Value.int .u8) := fun l => by simp [byteV]
 have h := run_equalIn_ints (P := Tryz.prog) 9998 47 5 .u8 (s.map (fun c => (c.toNat : Int))) (t.map (fun c => (c.toNat : Int))) (by simp [hs, ht]) (by rw [List.length_map, hs]; exact Tryz.underlying47) Tryz.underlying5 (fun w => by kernel_rfl) (fun w => by kernel_rfl) w
 have hd : decide (s.map (fun c => (c.toNat : Int)) = t.map (fun c => (c.toNat : Int))) = decide (s = t) := by
  apply decide_eq_decide.2
  constructor
  · intro h
    exact (List.map_inj_right (fun x y h => UInt8.toNat_inj.1 (by omega))).1 h
  · rintro rfl; rfl
 rw [hd, hv, <- e0, <- e0] at h
 have h' : (Op.equalIn 10000 47 (.agg (s.map byteV).toArray) (.agg (t.map byteV).toArray)).run Tryz.prog w = .ok v w := h
 unfold execOp
 simp only [ho, h0, h1]
 generalize (s.map byteV).toArray = A at h' ⊢
 generalize (t.map byteV).toArray = B at h' ⊢
 simp [go_sem, h']
end Spo
end Go.Proofs.YtahjjcmeocibbaaGreatDoor
end
section
namespace Go.LogM
end Go.LogM
namespace Go.Proofs.YtahjjcmeocibbaaGreatDoor
open Go.RowKit Go.Own
namespace Top
open Go.LogM Byt
open Spo (partsTy build1 sumV)
open Go.SpoM (sha)
def RetYes (w : World) (e : Ending) (w' : World) : Prop := e = .returned (.bool true) /\ Below w.heap.size w w'
theorem loadSumAt {o : Oper} {x : Tmp} (ho : o.op = .load 47 (.tmp x)) {w : World} {b k : Nat} {s : List UInt8} (hr : w.rangeAt b k (s.map byteV)) (hl : s.length = 32) (ρ : Operand -> Value) (h0 : ρ (.tmp x) = .pointer (some ⟨b, k, none⟩)) :
 (execOp ρ o).run Tryz.prog w = .ok (.value (.agg (s.map byteV).toArray)) w := by
 have := run_loadAt_mid (P := Tryz.prog) w b k 47 (s.map byteV) _ hr Tryz.underlying47 rfl (by have h := info_sum s hl; simpa using h)
 unfold execOp
 simp only [ho, h0, Sem.run_bind, this, Result.andThen_ok, Sem.run_pure]
theorem built_key0 (f : Nat -> Value) : Tryz.prog.built 51 [(0, .agg ((List.range 32).map f).toArray)] = some ((List.range 32).map f ++ [Value.int .u32 0]).toArray := by kernel_rfl
theorem built_key (s : List UInt8) (h : s.length = 32) : Tryz.prog.built 51 [(0, .agg (s.map byteV).toArray)] = some (Rec.keyC s 0).toArray := by
 have hrm : (List.range 32).map (fun i => (s.map byteV).getD i undef) = s.map byteV := by
  apply List.ext_getElem
  · simp [h]
  · intro i h1 h2
    simp [List.getD]
    simp at h2
    simp [h2]
 have h := built_key0 (fun i => (s.map byteV).getD i undef)
 rw [hrm] at h
 exact h
end Top
end Go.Proofs.YtahjjcmeocibbaaGreatDoor
end
section
namespace Go.Proofs.YtahjjcmeocibbaaGreatDoor
open Go.RowKit Go.Own
namespace Lg
open Go.LogM Byt
section
variable {W w0 w : World} {FK : Fla.Kept W} {TK : Tab.Kept W} {K : Kept W FK TK} {B : Nat} {p pf pt fr : Nat} {σ : LG} {Ps : List Asn} {N : Nat}
theorem barrier_fr (hW : Below W.heap.size W w0) (hB : W.heap.size <= B) (H : LSt K B w0 w p pf pt fr σ Ps) (ok : FlaM.Ok σ.fs N) (hN : N <= 9000) :
 Calls Tryz.prog 13 #[ptr pf] w fun e w' => e = .returned (errL (FlaM.barrier σ.fs).2) /\ LSt K B w0 w' p pf pt fr ⟨(FlaM.barrier σ.fs).1, σ.tb, σ.a⟩ Ps :=
 (FK.barrier (H.wide hW hB) (H.front 1 rfl) ok (by omega)).mono fun e w' ⟨h1, h2⟩ => ⟨h1, by
  have h := h2.swap2
  simp only [List.eraseIdx_cons_zero] at h
  show Own.St B w0 w' (K.A p pf pt fr (FlaM.barrier σ.fs).1.pp σ.tb σ.a :: _)
  rw [barrier_pp]
  exact h⟩
theorem cut_fr (hW : Below W.heap.size W w0) (hB : W.heap.size <= B) (H : LSt K B w0 w p pf pt fr σ Ps) (ok : FlaM.Ok σ.fs N) (hN : N <= 9000) (after : Int) (ha : i64L after) :
 Calls Tryz.prog 8 #[ptr pf, .int .i64 after] w fun e w' => e = .returned (.tuple #[]) /\ LSt K B w0 w' p pf pt fr ⟨FlaM.cut σ.fs after, σ.tb, σ.a⟩ Ps :=
 (FK.cut after (H.wide hW hB) (H.front 1 rfl) ok (by omega) ha).mono fun e w' ⟨h1, h2⟩ => ⟨h1, by
  have h := h2.swap2
  simp only [List.eraseIdx_cons_zero] at h
  have e : (FlaM.cut σ.fs after).pp = σ.fs.pp := by unfold FlaM.cut; split <;> rfl
  show Own.St B w0 w' (K.A p pf pt fr (FlaM.cut σ.fs after).pp σ.tb σ.a :: _)
  rw [e]
  exact h⟩
theorem crash_fr (hW : Below W.heap.size W w0) (hB : W.heap.size <= B) (H : LSt K B w0 w p pf pt fr σ Ps) (ok : FlaM.Ok σ.fs N) (hN : N <= 9000) (ao : Option Addr) (n cap : Nat) (l : List Int) (hl : Fla.LiesI B w [] ao n cap l) :
 Calls Tryz.prog 16 #[ptr pf, .slice ao n cap] w fun e w' => e = .returned (.tuple #[]) /\ LSt K B w0 w' p pf pt fr ⟨FlaM.crash σ.fs l, σ.tb, σ.a⟩ Ps :=
 (FK.crash ao n cap l (H.wide hW hB) (H.front 1 rfl) ok (by omega) ⟨hl.size, hl.room, hl.nil, hl.ints, hl.where_.imp (fun ⟨j, b, h, _⟩ => by simp at h) id⟩).mono fun e w' ⟨h1, h2⟩ => ⟨h1, by
  have h := h2.swap2
  simp only [List.eraseIdx_cons_zero] at h
  exact h⟩
end
end Lg
namespace Top
open Go.LogM Byt
structure WrD where
 front : List UInt8
 c : UInt8
 safe : Bool
def wrC (x : WrD) (v : Value) : List Value := [v, .int .u8 (x.c.toNat : Int), .bool x.safe]
def inWr : InT WrD := fun x B w cs => ∃ ad cd, cs = wrC x (.slice ad x.front.length cd) /\ inBytes x.front B w [.slice ad x.front.length cd]
set_option maxRecDepth 10000 in
theorem opens_wr : Opens Tryz.prog 39 inWr := by
 intro H enc w fuel cs x h
 obtain ⟨hl, hf⟩ := opens_fields (P := Tryz.prog) Tryz.underlying39 h
 rw [show Tryz.prog.cellsOf 39 = 3 by kernel_rfl] at hl
 match cs, hl with
 | [c0, c1, c2], _ =>
  obtain ⟨n0, y0, h0⟩ := hf 0 _ rfl
  obtain ⟨n1, y1, h1⟩ := hf 1 _ rfl
  obtain ⟨n2, y2, h2⟩ := hf 2 _ rfl
  obtain ⟨l, hb⟩ := opens_bytes (P := Tryz.prog) Tryz.underlying37 Tryz.underlying5 (by kernel_rfl) H enc w n0 _ y0 h0
  obtain ⟨a1, e1, w1⟩ := opens_int (P := Tryz.prog) Tryz.underlying5 H enc w n1 _ y1 h1
  obtain ⟨a2, e2⟩ := opens_bool (P := Tryz.prog) Tryz.underlying4 H enc w n2 _ y2 h2
  have k0 : Tryz.prog.cellsOf 5 = 1 := by kernel_rfl
  have k1 : Tryz.prog.cellsOf 4 = 1 := by kernel_rfl
  have k3 : Tryz.prog.cellsOf 37 = 1 := by kernel_rfl
  have hb' : inBytes l w.heap.size w [c0] := by simpa [k3] using hb
  have e1' : c1 = .int .u8 a1 := by simpa [k0] using e1
  have e2' : c2 = .bool a2 := by simpa [k1, inBool] using e2
  subst e1' e2'
  have hb2 := hb'
  obtain ⟨ab, cb, q1, q2, q3, q4, q5⟩ := hb'
  obtain ⟨u1, hu1⟩ := u8_byte w1
  simp only [List.cons.injEq, and_true] at q1
  subst q1 hu1
  exact ⟨⟨l, u1, a2⟩, ab, cb, rfl, hb2⟩
theorem wrs_in {l : List WrD} {B : Nat} {w : World} {ao : Option Addr} {n cap : Nat} (h : inSlice 3 inWr l B w [.slice ao n cap]) :
 n = l.length /\ n <= cap /\ cap <= maxLen /\ (l ≠ [] -> ∃ b o, ao = some ⟨b, o, none⟩ /\ b < B /\ ∀ w' : World, (∀ k, k < B -> w'.heap[k]? = w.heap[k]?) -> ∀ k (hk : k < l.length), ∃ ad cd, w'.rangeAt b (o + k * 3) (wrC l[k] (.slice ad l[k].front.length cd)) /\ View w' (fun k => k < B) ad l[k].front /\ (ad = none -> l[k].front.length = 0)) := by
 obtain ⟨ao', cap', h1, h2, h3, h4, h5⟩ := h
 simp only [List.cons.injEq, Value.slice.injEq, and_true] at h1
 obtain ⟨rfl, rfl, rfl⟩ := h1
 refine ⟨rfl, h2, h3, fun hne => ?_⟩
 rcases h5 with rfl | ⟨b, o, e, hb, hs, hcc⟩
 · exact absurd rfl hne
 · refine ⟨b, o, e, hb, fun w' hw' k hk => ?_⟩
   obtain ⟨cs', g1, g2, ad, cd, rfl, g3⟩ := hcc k hk
   obtain ⟨ad', cd', q1, q2, q3, q4, q5⟩ := g3
   simp only [List.cons.injEq, Value.slice.injEq, and_true] at q1
   obtain ⟨rfl, _, rfl⟩ := q1
   refine ⟨ad, cd, fun j v hv => ?_, q5.same hw', fun hn => by have := q4 hn; omega⟩
   have hj : j < 3 := (List.getElem?_eq_some_iff.1 hv).1
   have := (World.cell?_of_block (w := w) (hw' b hb)).trans (g2 j hj)
   rw [Nat.add_assoc, this, hv]
def zWr : List Value := [.slice none 0 0, .int .u8 0, .bool false]
theorem zero_wr : (Tryz.prog.info? 39).bind (·.zero) = some (.agg zWr.toArray) := by kernel_rfl
theorem built_nc0 (y : Int) (ao : Option Addr) (n c : Nat) (f : Nat -> Value) : Tryz.prog.built 54 [(0, .int .u8 1), (2, .int .u64 y), (3, .agg ((List.range 33).map f).toArray), (4, .slice ao n c)] = some (.int .u8 1 :: .int .u32 0 :: .int .u64 y :: ((List.range 33).map f ++ [.slice ao n c])).toArray := by kernel_rfl
theorem built_nc (y : Int) (ao : Option Addr) (n c : Nat) (k : List Value) (h : k.length = 33) : Tryz.prog.built 54 [(0, .int .u8 1), (2, .int .u64 y), (3, .agg k.toArray), (4, .slice ao n c)] = some (.int .u8 1 :: .int .u32 0 :: .int .u64 y :: (k ++ [.slice ao n c])).toArray := by
 have hrm : (List.range 33).map (fun i => k.getD i undef) = k := by
  apply List.ext_getElem
  · simp [h]
  · intro i h1 h2
    simp [List.getD, h2]
 have h := built_nc0 y ao n c (fun i => k.getD i undef)
 rw [hrm] at h
 exact h
theorem strCell0 (w : World) (b : List UInt8) (t : TypeId) : (w.alloc (.cells #[strV b] t)).cell? ⟨w.heap.size, 0, none⟩ = some (strV b) := by simp
theorem idxStr {o : Oper} {x y : Tmp} (ho : o.op = .indexAddr 36 (.tmp x) (.tmp y)) (g n c k : Nat) (hk : k < n) : ∀ (ρ : Operand -> Value) w, ρ (.tmp x) = .slice (some ⟨g, 0, none⟩) n c -> ρ (.tmp y) = .int .i64 (k : Int) -> (execOp ρ o).run Tryz.prog w = .ok (.value (.pointer (some ⟨g, k, none⟩))) w := by
 intro ρ w h0 h1
 have hk' : (k : Int) < (n : Int) := by omega
 simp [execOp, ho, h0, h1, go_sem, hk', add_of]
end Top
end Go.Proofs.YtahjjcmeocibbaaGreatDoor
end
