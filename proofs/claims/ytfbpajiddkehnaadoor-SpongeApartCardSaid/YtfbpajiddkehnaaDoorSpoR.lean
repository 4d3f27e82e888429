/- The document's fingerprint: pumiceref04.Sum. -/
import Derived.Test.YtfbpajiddkehnaaDoorKecP
import Derived.Test.YtfbpajiddkehnaaDoorByt
import Derived.Test.YtfbpajiddkehnaaDoorSpoM
namespace Go.Proofs.YtfbpajiddkehnaaDoor
open Go.RowKit Go.Own
namespace Spo
open Go.KecM Go.SpoM Byt
open Kec (A64 u64V info_lanes one_cells)

theorem quo_eight {o : Oper} {t : Tmp} (ho : o.op = .binOp .quo 3 (.tmp t) (.const (.int .i64 8)) 3) (k : Nat) (hk : k ≤ 1000) {q : Nat} (hq : q = k / 8) : ∀ (ρ : Operand → Value) w, ρ (.tmp t) = .int .i64 (k : Int) → (∀ c, ρ (.const c) = c) → (execOp ρ o).run Tryd.prog w = .ok (.value (.int .i64 (q : Int))) w := by
  intro ρ w h0 hc
  have e1 : (k : Int).tdiv 8 = (q : Int) := by rw [Int.tdiv_eq_ediv_of_nonneg (by omega)]; omega
  have e : IntKind.i64.wrap (q : Int) = (q : Int) := IntWalk.i64_in _ (by omega)
  simp only [execOp, ho, h0, hc]
  generalize (k : Int) = m at e1
  simp [go_sem, e1, e]
theorem rem_eight {o : Oper} {t : Tmp} (ho : o.op = .binOp .rem 3 (.tmp t) (.const (.int .i64 8)) 3) (k : Nat) (hk : k ≤ 1000) {q : Nat} (hq : q = k % 8) : ∀ (ρ : Operand → Value) w, ρ (.tmp t) = .int .i64 (k : Int) → (∀ c, ρ (.const c) = c) → (execOp ρ o).run Tryd.prog w = .ok (.value (.int .i64 (q : Int))) w := by
  intro ρ w h0 hc
  have e1 : (k : Int).tmod 8 = (q : Int) := by rw [Int.tmod_eq_emod_of_nonneg (by omega)]; omega
  have e : IntKind.i64.wrap (q : Int) = (q : Int) := IntWalk.i64_in _ (by omega)
  simp only [execOp, ho, h0, hc]
  generalize (k : Int) = m at e1
  simp [go_sem, e1, e]
theorem mul_eight {o : Oper} {t : Tmp} (ho : o.op = .binOp .mul 3 (.const (.int .i64 8)) (.tmp t) 3) (k : Nat) (hk : k < 8) {q : Nat} (hq : q = 8 * k) : ∀ (ρ : Operand → Value) w, ρ (.tmp t) = .int .i64 (k : Int) → (∀ c, ρ (.const c) = c) → (execOp ρ o).run Tryd.prog w = .ok (.value (.int .i64 (q : Int))) w := by
  intro ρ w h0 hc
  have e : IntKind.i64.wrap (8 * (k : Int)) = (q : Int) := (IntWalk.i64_in _ (by omega)).trans (by omega)
  simp only [execOp, ho, h0, hc]
  generalize (k : Int) = m at e
  simp [go_sem, e]
theorem add_two {o : Oper} {x y : Tmp} (ho : o.op = .binOp .add 3 (.tmp x) (.tmp y) 3) (k j : Nat) (hb : k + j ≤ 1000000000) {q : Nat} (hq : q = k + j) : ∀ (ρ : Operand → Value) w, ρ (.tmp x) = .int .i64 (k : Int) → ρ (.tmp y) = .int .i64 (j : Int) → (execOp ρ o).run Tryd.prog w = .ok (.value (.int .i64 (q : Int))) w := by
  intro ρ w h0 h1
  have e : IntKind.i64.wrap ((k : Int) + (j : Int)) = (q : Int) := (IntWalk.i64_in _ (by omega)).trans (by omega)
  simp only [execOp, ho, h0, h1]
  generalize (k : Int) = m at e
  generalize (j : Int) = m2 at e
  simp [go_sem, e]
theorem idx_slice {o : Oper} {x y : Tmp} (ho : o.op = .indexAddr 22 (.tmp x) (.tmp y)) (g n c k : Nat) (hk : k < n) : ∀ (ρ : Operand → Value) w, ρ (.tmp x) = .slice (some ⟨g, 0, none⟩) n c → ρ (.tmp y) = .int .i64 (k : Int) → (execOp ρ o).run Tryd.prog w = .ok (.value (.pointer (some ⟨g, k, none⟩))) w := by
  intro ρ w h0 h1
  have hk' : (k : Int) < (n : Int) := by omega
  simp [execOp, ho, h0, h1, go_sem, hk, hk']
theorem load8 {o : Oper} {x : Tmp} (ho : o.op = .load 5 (.tmp x)) {a : Addr} {c : UInt8} (ρ : Operand → Value) {w : World} (hc : w.cell? a = some (.int .u8 (c.toNat : Int))) (h0 : ρ (.tmp x) = .pointer (some a)) : (execOp ρ o).run Tryd.prog w = .ok (.value (.int .u8 (c.toNat : Int))) w := by
  simp [execOp, ho, h0, go_sem, hc]
theorem conv_8_64 {o : Oper} {x : Tmp} (ho : o.op = .convert 5 39 (.tmp x)) (c : UInt8) {z : W} (hz : z = BitVec.ofNat 64 c.toNat) (ρ : Operand → Value) (w : World) (h0 : ρ (.tmp x) = .int .u8 (c.toNat : Int)) : (execOp ρ o).run Tryd.prog w = .ok (.value (.int .u64 (z.toNat : Int))) w := by
  have hc : c.toNat < 256 := c.toNat_lt
  have e : IntKind.u64.wrap (c.toNat : Int) = (z.toNat : Int) := by rw [Kec.wrap_u64', hz, BitVec.toNat_ofNat]; omega
  simp only [execOp, ho, h0]
  generalize (c.toNat : Int) = m at e
  simp [go_sem, e]
theorem shl64 {o : Oper} {x y : Tmp} (ho : o.op = .binOp .shl 39 (.tmp x) (.tmp y) 3) (z : W) (e : Nat) (he : e < 64) {u : W} (hu : u = z <<< e) (ρ : Operand → Value) (w : World) (h0 : ρ (.tmp x) = .int .u64 (z.toNat : Int)) (h1 : ρ (.tmp y) = .int .i64 (e : Int)) : (execOp ρ o).run Tryd.prog w = .ok (.value (.int .u64 (u.toNat : Int))) w := by
  have e2 : IntKind.u64.wrap ((z.toNat : Int) * 2 ^ e) = (u.toNat : Int) := by
    rw [Kec.wrap_u64', hu, BitVec.toNat_shiftLeft, Nat.shiftLeft_eq]
    simp
  have h2 : ¬ (e : Int) < 0 := by omega
  have h3 : e < 64 := he
  simp only [execOp, ho, h0, h1]
  simp [go_sem, e2, h2, h3]

set_option maxHeartbeats 4000000 in
theorem shaRef_any (ao : Option Addr) (n cap : Nat) (b : List UInt8) (w : World) (hV : View w (fun k => k < w.heap.size) ao b) (hn : b.length = n) (hcap : ao = none → cap = 0) (hb : n ≤ 100000000) :
    Calls Tryd.prog 11 #[.slice ao n cap] w fun e w' => e = .returned (.agg ((sha b).map byteV).toArray) ∧ Below w.heap.size w w' := by
  have HN := Lib.hid hn
  have HV := Lib.hid hV
  have hnone : Hid (ao = none → n = 0 ∧ cap = 0) := fun h => ⟨by rw [← hn, vnone hV h]; rfl, hcap h⟩
  obtain ⟨x, hx⟩ : ∃ x, x = padded b := ⟨_, rfl⟩
  obtain ⟨N, hN⟩ : ∃ N, N = 136 * (n / 136 + 1) := ⟨_, rfl⟩
  have XL : Hid (x.length = N) := by show x.length = N; rw [hx, hN, padded_len, hn]
  have HX := Lib.hid hx
  have HNN := Lib.hid hN
  clear hn hV hcap hx hN
  go_enter Tryd.func11, Tryd.ntmps11
  have H0 := Lib.hid (ab_nil (A8.box (Own.St.start w) 25 (List.replicate 32 0)))
  have HC0 := Lib.hid (vcells (vlater HV.out ((Own.St.start w).alloc (.cells ((List.replicate 32 (0 : UInt8)).map byteV).toArray 25)).below))
  clear HV
  go_wp2_with (at_builtin; first
    | (refine Byt.wpList_ab_append rfl (.tmp 9) (.tmp 10) rfl H0.out 0 rfl rfl ao n cap b rfl hnone.out HN.out HC0.out (by omega) ?_; intro a1 c1 wa ha; simp only [Nat.zero_add, List.nil_append, List.set_cons_zero] at ha; have HA := Lib.hid ha; clear ha)
    | (refine Byt.wpList_ab_append rfl (.tmp 12) (.tmp 13) rfl (HA.out.alloc (.cells #[.int .u8 ((6 : UInt8).toNat : Int)] 5)) 0 rfl rfl (some ⟨wa.heap.size, 0, none⟩) 1 1 [6] rfl (by intro h; cases h) rfl (one_cells8 wa 6 _) (by omega) ?_; intro a2 c2 wb hb'; simp only [List.set_cons_zero] at hb'; have HB := Lib.hid hb'; clear hb'))
  obtain ⟨br, hbr⟩ : ∃ v, v = w.heap.size := ⟨_, rfl⟩
  have HB1 : Hid (Own.St w.heap.size w wb [AB a2 (n + 1 + 0) c2 (b ++ [6] ++ List.replicate 0 0), A8 br 25 (List.replicate 32 0)]) := by
    rw [hbr]
    have h := HB.out
    rw [List.replicate_zero, List.append_nil]
    exact h
  rw [← hbr]
  clear HA HB hbr
  obtain ⟨Z, hZ⟩ : ∃ Z, Z = (136 - (n + 1) % 136) % 136 := ⟨_, rfl⟩
  go_loopw [3] (fun v wr => ∃ (z : Nat) (ax : Option Addr) (cx : Nat), z ≤ Z ∧ v = .slice ax (n + 1 + z) cx ∧ Own.St w.heap.size w wr [AB ax (n + 1 + z) cx (b ++ [6] ++ List.replicate z 0), A8 br 25 (List.replicate 32 0)]) (fun v _ => Z - (lenV v - (n + 1)))
  case atStart => exact ⟨0, a2, c2, Nat.zero_le _, rfl, HB1.out⟩
  case round =>
    obtain ⟨z, ax, cx, hzZ, rfl, H⟩ := hrel
    obtain ⟨m, hm⟩ : ∃ m, m = n + 1 + z := ⟨_, rfl⟩
    rw [← hm] at H ⊢
    have H := Lib.hid H
    by_cases hmod : m % 136 = 0
    · have hgo : ((m : Int) % 136 == 0) = true := by simp; omega
      have HL : Hid ((b ++ [6] ++ List.replicate z 0).length = m) := (ab_len H.out 0 rfl).1
      obtain ⟨m1, hm1⟩ : ∃ m1, m = m1 + 1 := ⟨m - 1, by omega⟩
      have hmi : (m : Int) - 1 = (m1 : Int) := by omega
      have hlt : m1 < m := by omega
      have hm1b : m1 ≤ 100000200 := by omega
      have hlti : (m1 : Int) < (m : Int) := by omega
      obtain ⟨gx, rfl, cb, fb, hput⟩ := ab_byte H.out 0 rfl m1 hlt
      obtain ⟨c0, hc0⟩ : ∃ c, c = (b ++ [6] ++ List.replicate z 0).getD m1 0 := ⟨_, rfl⟩
      rw [← hc0] at cb
      obtain ⟨c1, hc1⟩ : ∃ c, c = c0 ^^^ 128 := ⟨_, rfl⟩
      have hxor : bits .xor .u8 (c0.toNat : Int) 128 = (c1.toNat : Int) := by
        have h := u8_xor_nat c0.toNat 128 c0.toNat_lt (by omega)
        rw [hc1, UInt8.toNat_xor]
        exact h
      have hmN : m = N := by have := HNN.out; omega
      have HP : Hid (Own.St w.heap.size w (wr.setCell ⟨gx, m1, none⟩ (.int .u8 (c1.toNat : Int))) [AB (some ⟨gx, 0, none⟩) N cx x, A8 br 25 (List.replicate 32 0)]) := by
        have h := hput c1
        have hz2 : z < 136 := by omega
        have e := padded_eq b z (by rw [HN.out, ← hm]; exact hmod) hz2 m1 (by rw [HN.out]; omega)
        rw [← hc0, ← hc1, ← HX.out] at e
        simp only [List.set_cons_zero] at h
        rw [e, hmN] at h
        exact h
      clear hput hc0 hc1 HL H
      obtain ⟨bl, hbl⟩ : ∃ v, v = wr.heap.size := ⟨_, rfl⟩
      have HA2 : Hid (Own.St w.heap.size w ((wr.setCell ⟨gx, m1, none⟩ (.int .u8 (c1.toNat : Int))).alloc (.cells ((List.replicate 25 (0 : KecM.W)).map u64V).toArray 41)) [A64 bl 41 (blocks zeroSt x 0), AB (some ⟨gx, 0, none⟩) N cx x, A8 br 25 (List.replicate 32 0)]) := by
        have h := A64.box HP.out 41 (List.replicate 25 0)
        have e : (wr.setCell ⟨gx, m1, none⟩ (.int .u8 (c1.toNat : Int))).heap.size = wr.heap.size := by simp
        rw [e, ← hbl] at h
        exact h
      have HMN := Lib.hid hmN
      clear HP hm hm1 hmN hzZ
      go_wp2
      change Code.wp _ _ _ _ ((wr.setCell ⟨gx, m1, none⟩ (.int .u8 (c1.toNat : Int))).alloc (.cells ((List.replicate 25 (0 : KecM.W)).map u64V).toArray 41))
      rw [← hbl]
      generalize (wr.setCell ⟨gx, m1, none⟩ (.int .u8 (c1.toNat : Int))).alloc (.cells ((List.replicate 25 (0 : KecM.W)).map u64V).toArray 41) = W2 at HA2 ⊢
      obtain ⟨N2, hN2⟩ : ∃ N2, N2 = m := ⟨_, rfl⟩
      rw [← hN2]
      have hNN : N2 = N := by have := HMN.out; omega
      subst hNN
      clear hbl cb fb hxor hgo hmi hlt hlti hmod hN2 HMN
      obtain ⟨k1, hk1⟩ : ∃ k, k = n / 136 + 1 := ⟨_, rfl⟩
      have HK1 : Hid (N2 = 136 * k1) := by show N2 = 136 * k1; rw [hk1, HNN.out]
      have hNb : N2 ≤ 100000136 := by have := HNN.out; omega
      go_loopw [5] (fun v wr => ∃ k p : Nat, p = 136 * k ∧ k ≤ k1 ∧ v = .int .i64 (p : Int) ∧ Own.St w.heap.size w wr [A64 bl 41 (blocks zeroSt x k), AB (some ⟨gx, 0, none⟩) N2 cx x, A8 br 25 (List.replicate 32 0)]) (fun v _ => N2 - (intOf v).toNat)
      case atStart => exact ⟨0, 0, rfl, Nat.zero_le _, rfl, HA2.out⟩
      case round =>
        obtain ⟨k, p, hpk, hk, rfl, H⟩ := hrel
        have H := Lib.hid H
        obtain ⟨s0, hs0⟩ : ∃ s, s = blocks zeroSt x k := ⟨_, rfl⟩
        have HS0 := Lib.hid hs0
        have SL : Hid (s0.length = 25) := by rw [hs0]; exact blocks_len _ _ rfl k
        rw [← hs0] at H
        clear hs0 HA2
        by_cases hp : p < N2
        · have hpb : p ≤ 100000136 := by omega
          have HKK : Hid (k < k1) := by show k < k1; have := HK1.out; omega
          have HPK := Lib.hid hpk
          obtain ⟨y, hy⟩ : ∃ y, y = x.drop p := ⟨_, rfl⟩
          have HY := Lib.hid hy
          have H2 : Hid (Own.St w.heap.size w wr [A64 bl 41 (xorN s0 y 0), AB (some ⟨gx, 0, none⟩) N2 cx x, A8 br 25 (List.replicate 32 0)]) := H.out
          have hpN : p + 136 ≤ N2 := by have := HK1.out; have := HKK.out; omega
          obtain ⟨wo, hwo⟩ : ∃ wo, wo = wr := ⟨_, rfl⟩
          rw [← hwo] at H2 ⊢
          clear hwo H hpk hk hy
          go_wp2
          go_loopw [6] (fun v wr => ∃ i : Nat, i ≤ 136 ∧ v = .int .i64 (i : Int) ∧ Own.St w.heap.size w wr [A64 bl 41 (xorN s0 y i), AB (some ⟨gx, 0, none⟩) N2 cx x, A8 br 25 (List.replicate 32 0)]) (fun v _ => 136 - (intOf v).toNat)
          case atStart => exact ⟨0, Nat.zero_le _, rfl, H2.out⟩
          case round =>
            obtain ⟨i, hi136, rfl, G⟩ := hrel
            have G := Lib.hid G
            clear H2
            by_cases hi : (i : Int) < 136
            · have hin : i < 136 := by omega
              have hi1000 : i ≤ 1000 := by omega
              obtain ⟨q, hq⟩ : ∃ q, q = i / 8 := ⟨_, rfl⟩
              obtain ⟨r, hr⟩ : ∃ r, r = i % 8 := ⟨_, rfl⟩
              obtain ⟨e, he⟩ : ∃ e, e = 8 * r := ⟨_, rfl⟩
              obtain ⟨pi, hpi⟩ : ∃ pi, pi = p + i := ⟨_, rfl⟩
              have hq25 : q < 25 := by omega
              have hr8 : r < 8 := by omega
              have he64 : e < 64 := by omega
              have hpib : p + i ≤ 1000000000 := by omega
              have hpiN : pi < N2 := by omega
              obtain ⟨st, hst⟩ : ∃ st, st = xorN s0 y i := ⟨_, rfl⟩
              have STL : Hid (st.length = 25) := by show st.length = 25; rw [hst, xorN_len]; exact SL.out
              rw [← hst] at G
              obtain ⟨c, hc⟩ : ∃ c, c = x.getD pi 0 := ⟨_, rfl⟩
              obtain ⟨z1, hz1⟩ : ∃ z, z = st.getD q 0 := ⟨_, rfl⟩
              obtain ⟨z2, hz2⟩ : ∃ z, z = BitVec.ofNat 64 c.toNat := ⟨_, rfl⟩
              obtain ⟨z3, hz3⟩ : ∃ z, z = z2 <<< e := ⟨_, rfl⟩
              obtain ⟨z4, hz4⟩ : ∃ z, z = z1 ^^^ z3 := ⟨_, rfl⟩
              have HZ2 := Lib.hid hz2
              have HZ3 := Lib.hid hz3
              have HC1 : Hid (∀ wx, Below wr.heap.size wr wx → wx.cell? ⟨bl, q, none⟩ = some (.int .u64 (z1.toNat : Int))) := fun wx hwx => Kec.cell_later (A64.cell G.out 0 rfl q (by rw [STL.out]; exact hq25) hz1.symm).1 hwx
              have HC2 : Hid (∀ wx, Below wr.heap.size wr wx → wx.cell? ⟨gx, pi, none⟩ = some (.int .u8 (c.toNat : Int))) := fun wx hwx => by
                obtain ⟨g, hg, cb, _⟩ := ab_byte G.out 1 rfl pi hpiN
                cases hg
                rw [← hc] at cb
                exact Kec.cell_later cb hwx
              have HX4 : Hid (bits .xor .u64 (z1.toNat : Int) (z3.toNat : Int) = (z4.toNat : Int)) := by
                show bits .xor .u64 (z1.toNat : Int) (z3.toNat : Int) = (z4.toNat : Int)
                rw [u64_xor_nat _ _ z1.isLt z3.isLt, hz4, BitVec.toNat_xor]
              have HNEXT : Hid (st.set q z4 = xorN s0 y (i + 1)) := by
                show st.set q z4 = xorN s0 y (i + 1)
                have ey : y.getD i 0 = c := by
                  rw [HY.out, hc, hpi]
                  simp [List.getD, List.getElem?_drop]
                rw [xorN_succ, ← hst, ey, hz4, hz3, hz2, hz1, he, hr, hq]
                rfl
              clear hz1 hz2 hz3 hz4 hst hc
              go_wp2
              refine wp_laxT_list 19 (by kernel_rfl) (by kernel_rfl) (by kernel_rfl) (by kernel_rfl) (by kernel_rfl) ?_
              simp only [List.take_succ_cons, List.take_zero, List.drop_succ_cons, List.drop_zero]
              refine wpL_move (.int .i64 (i : Int)) rfl (by kernel_rfl) (by kernel_rfl) (by kernel_rfl) (by kernel_rfl) ?_
              refine wpL_run1 (x := .tmp 44) (.int .i64 (i : Int)) (.int .i64 (q : Int)) (by kernel_rfl) (by kernel_rfl) (by kernel_rfl) (by kernel_rfl) (by kernel_rfl) (fun wx ρ hwx h0 hc => quo_eight rfl i hi1000 hq ρ wx h0 hc) ?_
              refine wpL_move (.int .i64 (i : Int)) rfl (by kernel_rfl) (by kernel_rfl) (by kernel_rfl) (by kernel_rfl) ?_
              refine wpL_run1 (x := .tmp 46) (.int .i64 (i : Int)) (.int .i64 (q : Int)) (by kernel_rfl) (by kernel_rfl) (by kernel_rfl) (by kernel_rfl) (by kernel_rfl) (fun wx ρ hwx h0 hc => quo_eight rfl i hi1000 hq ρ wx h0 hc) ?_
              refine wpL_run2 (x := .tmp 4) (y := .tmp 47) (.pointer (some ⟨bl, 0, none⟩)) (.int .i64 (q : Int)) (.pointer (some ⟨bl, q, none⟩)) (by kernel_rfl) (by kernel_rfl) (by kernel_rfl) (by kernel_rfl) (by kernel_rfl) (by kernel_rfl) (fun wx ρ hwx h0 h1 hc => Kec.idx25 rfl q hq25 bl ρ wx h0 h1) ?_
              refine wpL_run1 (x := .tmp 48) (.pointer (some ⟨bl, q, none⟩)) (.int .u64 z1.toNat) (by kernel_rfl) (by kernel_rfl) (by kernel_rfl) (by kernel_rfl) (by kernel_rfl) (fun wx ρ hwx h0 hc => Kec.load64 rfl ρ (HC1.out wx hwx) h0) ?_
              refine wpL_move (.slice (some ⟨gx, 0, none⟩) N2 cx) rfl (by kernel_rfl) (by kernel_rfl) (by kernel_rfl) (by kernel_rfl) ?_
              refine wpL_move (.int .i64 (p : Int)) rfl (by kernel_rfl) (by kernel_rfl) (by kernel_rfl) (by kernel_rfl) ?_
              refine wpL_move (.int .i64 (i : Int)) rfl (by kernel_rfl) (by kernel_rfl) (by kernel_rfl) (by kernel_rfl) ?_
              refine wpL_run2 (x := .tmp 51) (y := .tmp 52) (.int .i64 (p : Int)) (.int .i64 (i : Int)) (.int .i64 (pi : Int)) (by kernel_rfl) (by kernel_rfl) (by kernel_rfl) (by kernel_rfl) (by kernel_rfl) (by kernel_rfl) (fun wx ρ hwx h0 h1 hc => add_two rfl p i hpib hpi ρ wx h0 h1) ?_
              refine wpL_run2 (x := .tmp 50) (y := .tmp 53) (.slice (some ⟨gx, 0, none⟩) N2 cx) (.int .i64 (pi : Int)) (.pointer (some ⟨gx, pi, none⟩)) (by kernel_rfl) (by kernel_rfl) (by kernel_rfl) (by kernel_rfl) (by kernel_rfl) (by kernel_rfl) (fun wx ρ hwx h0 h1 hc => idx_slice rfl gx N2 cx pi hpiN ρ wx h0 h1) ?_
              refine wpL_run1 (x := .tmp 54) (.pointer (some ⟨gx, pi, none⟩)) (.int .u8 (c.toNat : Int)) (by kernel_rfl) (by kernel_rfl) (by kernel_rfl) (by kernel_rfl) (by kernel_rfl) (fun wx ρ hwx h0 hc => load8 rfl ρ (HC2.out wx hwx) h0) ?_
              refine wpL_run1 (x := .tmp 55) (.int .u8 (c.toNat : Int)) (.int .u64 (z2.toNat : Int)) (by kernel_rfl) (by kernel_rfl) (by kernel_rfl) (by kernel_rfl) (by kernel_rfl) (fun wx ρ hwx h0 hc => conv_8_64 rfl c HZ2.out ρ wx h0) ?_
              refine wpL_move (.int .i64 (i : Int)) rfl (by kernel_rfl) (by kernel_rfl) (by kernel_rfl) (by kernel_rfl) ?_
              refine wpL_run1 (x := .tmp 57) (.int .i64 (i : Int)) (.int .i64 (r : Int)) (by kernel_rfl) (by kernel_rfl) (by kernel_rfl) (by kernel_rfl) (by kernel_rfl) (fun wx ρ hwx h0 hc => rem_eight rfl i hi1000 hr ρ wx h0 hc) ?_
              refine wpL_run1 (x := .tmp 58) (.int .i64 (r : Int)) (.int .i64 (e : Int)) (by kernel_rfl) (by kernel_rfl) (by kernel_rfl) (by kernel_rfl) (by kernel_rfl) (fun wx ρ hwx h0 hc => mul_eight rfl r hr8 he ρ wx h0 hc) ?_
              refine wpL_run2 (x := .tmp 56) (y := .tmp 59) (.int .u64 (z2.toNat : Int)) (.int .i64 (e : Int)) (.int .u64 (z3.toNat : Int)) (by kernel_rfl) (by kernel_rfl) (by kernel_rfl) (by kernel_rfl) (by kernel_rfl) (by kernel_rfl) (fun wx ρ hwx h0 h1 hc => shl64 rfl z2 e he64 HZ3.out ρ wx h0 h1) ?_
              refine wpL_run2 (x := .tmp 49) (y := .tmp 60) (.int .u64 z1.toNat) (.int .u64 (z3.toNat : Int)) (.int .u64 (z4.toNat : Int)) (by kernel_rfl) (by kernel_rfl) (by kernel_rfl) (by kernel_rfl) (by kernel_rfl) (by kernel_rfl) (fun wx ρ hwx h0 h1 hc => by simp [h0, h1, hc, go_sem, HX4.out]) ?_
              refine wpL_run2 (x := .tmp 4) (y := .tmp 45) (.pointer (some ⟨bl, 0, none⟩)) (.int .i64 (q : Int)) (.pointer (some ⟨bl, q, none⟩)) (by kernel_rfl) (by kernel_rfl) (by kernel_rfl) (by kernel_rfl) (by kernel_rfl) (by kernel_rfl) (fun wx ρ hwx h0 h1 hc => Kec.idx25 rfl q hq25 bl ρ wx h0 h1) ?_
              refine wpL_end (by kernel_rfl) (fun wd hwd => ?_)
              simp only [FinL, setL, List.set_cons_zero, List.set_cons_succ]
              have G2 := Lib.hid (G.out.later hwd)
              obtain ⟨cp, fp⟩ := A64.cell G2.out 0 rfl q (by rw [STL.out]; exact hq25) rfl
              have PUT := Lib.hid (A64.store G2.out 0 rfl q z4)
              clear hwd HC1 HC2 HX4 HZ2 HZ3 G
              clear hq hr he hpi
              go_wp2
              go_roundw
              case rel =>
                have h := PUT.out
                rw [HNEXT.out] at h
                exact ⟨i + 1, by omega, by go_num, h⟩
              case measure => simp [intOf]; omega
            · have hi' : i = 136 := by omega
              obtain ⟨ts, hts⟩ : ∃ t, t = xorN s0 y 136 := ⟨_, rfl⟩
              obtain ⟨rs, hrs⟩ : ∃ t, t = perm 24 ts := ⟨_, rfl⟩
              have TL : Hid (ts.length = 25) := by show ts.length = 25; rw [hts, xorN_len]; exact SL.out
              have RL : Hid (rs.length = 25) := by rw [hrs]; exact perm_len _ _ TL.out
              have NEXT : Hid (rs = blocks zeroSt x (k + 1)) := by
                show rs = perm 24 (xorN (blocks zeroSt x k) (x.drop (136 * k)) 136)
                rw [hrs, hts, HY.out, HS0.out, HPK.out]
              have G2 : Hid (Own.St w.heap.size w wr [A64 bl 41 ts, AB (some ⟨gx, 0, none⟩) N2 cx x, A8 br 25 (List.replicate 32 0)]) := by
                have h := G.out
                rw [hi', ← hts] at h
                exact h
              have CALL : Hid (∀ wx, Calls Tryd.prog 15 #[.agg (ts.map u64V).toArray] wx fun e w' => e = .returned (.agg (rs.map u64V).toArray) ∧ Below wx.heap.size wx w') := by
                intro wx
                rw [hrs]
                exact Kec.permOf_any ts TL.out wx
              have ROW := Lib.hid (A64.row G2.out 0 rfl)
              have INFO1 := Lib.hid (info_lanes ts TL.out)
              have INFO2 := Lib.hid (info_lanes rs RL.out)
              have ONE2 := Lib.hid (one_cells rs)
              clear hi' hts hrs hi136 G
              go_wp2_with (refine wpList_load_row rfl 41 (.tmp 4) rfl bl rfl 41 _ (0, 0) _ ROW.out Tryd.underlying41 rfl INFO1.out ?_)
              refine (CALL.out wr).mono ?_
              rintro e wd ⟨rfl, hwd⟩
              have G3 := Lib.hid (G2.out.later hwd)
              have ALL := Lib.hid (A64.setAll G3.out 0 rfl rs (by rw [RL.out, TL.out]))
              have THERE := Lib.hid (A64.there G3.out 0 rfl rs (by rw [RL.out, TL.out]))
              clear hwd
              go_wp2_with (refine wpList_store_mid rfl 41 (.tmp 4) (.tmp 64) rfl bl 0 (rs.map u64V).toArray rfl rfl THERE.out INFO2.out ONE2.out ?_)
              go_roundw
              case rel =>
                refine ⟨k + 1, p + 136, by have := HPK.out; omega, by have := HKK.out; omega, by go_num, ?_⟩
                rw [← NEXT.out]
                exact ALL.out
              case measure => simp [intOf]; omega
        · have HPK : Hid (k = k1) := by show k = k1; have := HK1.out; omega
          have HFIN : Hid (squeeze s0 = sha b) := by
            show squeeze s0 = sha b
            rw [HS0.out, HPK.out, hk1, ← HN.out, HX.out, blocks_padded]
            rfl
          obtain ⟨bd, hbd⟩ : ∃ v, v = wr.heap.size := ⟨_, rfl⟩
          have HD : Hid (Own.St w.heap.size w (wr.alloc (.cells ((List.replicate 32 (0 : UInt8)).map byteV).toArray 25)) [A8 bd 25 (sqTo s0 0), A64 bl 41 s0, AB (some ⟨gx, 0, none⟩) N2 cx x, A8 br 25 (List.replicate 32 0)]) := by
            have h := A8.box H.out 25 (List.replicate 32 0)
            rw [← hbd] at h
            rw [sqTo_zero]
            exact h
          clear H hpk hk
          go_wp2
          change Code.wp _ _ _ _ (wr.alloc (.cells ((List.replicate 32 (0 : UInt8)).map byteV).toArray 25))
          rw [← hbd]
          generalize wr.alloc (.cells ((List.replicate 32 (0 : UInt8)).map byteV).toArray 25) = W3 at HD ⊢
          clear hbd
          go_loopw [8] (fun v wr => ∃ i : Nat, i ≤ 32 ∧ v = .int .i64 (i : Int) ∧ Own.St w.heap.size w wr [A8 bd 25 (sqTo s0 i), A64 bl 41 s0, AB (some ⟨gx, 0, none⟩) N2 cx x, A8 br 25 (List.replicate 32 0)]) (fun v _ => 32 - (intOf v).toNat)
          case atStart => exact ⟨0, Nat.zero_le _, rfl, HD.out⟩
          case round =>
            obtain ⟨i, hi32, rfl, G⟩ := hrel
            have G := Lib.hid G
            clear HD
            by_cases hi : (i : Int) < 32
            · have hin : i < 32 := by omega
              obtain ⟨q, hq⟩ : ∃ q, q = i / 8 := ⟨_, rfl⟩
              obtain ⟨r, hr⟩ : ∃ r, r = i % 8 := ⟨_, rfl⟩
              obtain ⟨e, he⟩ : ∃ e, e = 8 * r := ⟨_, rfl⟩
              have hqi : (i : Int) / 8 = (q : Int) := by omega
              have hri : (i : Int) % 8 = (r : Int) := by omega
              have hei : 8 * (r : Int) = (e : Int) := by omega
              have hq25 : (q : Int) < 25 := by omega
              have hr8 : r < 8 := by omega
              have he64 : e < 64 := by omega
              obtain ⟨z1, hz1⟩ : ∃ z, z = s0.getD q 0 := ⟨_, rfl⟩
              obtain ⟨c, hc⟩ : ∃ c, c = SpoM.byteOf s0 i := ⟨_, rfl⟩
              have hz1b : z1.toNat < 18446744073709551616 := z1.isLt
              have hcv : ((z1.toNat : Int) / 2 ^ e) % 256 = (c.toNat : Int) := by
                rw [hc]
                unfold SpoM.byteOf
                rw [← hq, ← hr, ← he, ← hz1]
                simp
              have cz := (A64.cell G.out 1 rfl q (by rw [SL.out]; omega) hz1.symm).1
              obtain ⟨cd, fd⟩ := A8.cell G.out 0 rfl i (by rw [sqTo_len]; exact hin)
              have PUT : Hid (Own.St w.heap.size w (wr.setCell ⟨bd, i, none⟩ (.int .u8 (c.toNat : Int))) [A8 bd 25 (sqTo s0 (i + 1)), A64 bl 41 s0, AB (some ⟨gx, 0, none⟩) N2 cx x, A8 br 25 (List.replicate 32 0)]) := by
                have h := A8.store G.out 0 rfl i c
                rw [hc, sqTo_set] at h
                rw [hc]
                exact h
              clear hq hr he hz1 hc G
              go_wp2
              go_roundw
              case rel => exact ⟨i + 1, by omega, by go_num, PUT.out⟩
              case measure => simp [intOf]; omega
            · obtain ⟨rs, hrs⟩ : ∃ r, r = squeeze s0 := ⟨_, rfl⟩
              have LR : Hid (rs.length = 32) := by rw [hrs]; exact squeeze_len _
              have H5 : Hid (Own.St w.heap.size w wr [A8 bd 25 rs, A64 bl 41 s0, AB (some ⟨gx, 0, none⟩) N2 cx x, A8 br 25 (List.replicate 32 0)]) := by
                have h := G.out
                rw [show i = 32 by omega, sqTo_all, ← hrs] at h
                exact h
              have HRS := Lib.hid hrs
              clear hrs G hi32
              have LAST := Lib.hid (A8.setAll H5.out 3 rfl rs (by rw [LR.out]; rfl))
              have ROW := Lib.hid (A8.row H5.out 0 rfl)
              have THERE := Lib.hid (A8.there H5.out 3 rfl rs (by rw [LR.out]; rfl))
              have INFO2 := Lib.hid (info_sum rs LR.out)
              have ONE := Lib.hid (one8 rs)
              go_wp2_with (first
                | (refine wpList_load_row rfl 25 (.tmp 7) rfl bd rfl 25 _ (0, 0) _ ROW.out Tryd.underlying25 rfl INFO2.out ?_)
                | (refine wpList_store_mid rfl 25 (.tmp 2) (.tmp 80) rfl br 0 (rs.map byteV).toArray rfl rfl THERE.out INFO2.out ONE.out ?_))
              have END := Lib.hid (A8.row LAST.out 3 rfl)
              refine bodyPost_ret (results_cell_row rfl _ _ br 25 _ (0, 0) _ rfl END.out Tryd.underlying25 rfl INFO2.out) rfl ?_
              refine ⟨?_, LAST.out.below⟩
              rw [HRS.out, HFIN.out]
    · have hgo : ((m : Int) % 136 == 0) = false := by simp; omega
      have hz : z < Z := by omega
      have HM := Lib.hid hm
      have hmb : m ≤ 100000200 := by omega
      clear hm
      go_wp2_with (at_builtin; refine Byt.wpList_ab_append rfl (.tmp 19) (.tmp 20) rfl (H.out.alloc (.cells #[.int .u8 ((0 : UInt8).toNat : Int)] 5)) 0 rfl rfl (some ⟨wr.heap.size, 0, none⟩) 1 1 [0] rfl (by intro h; cases h) rfl (one_cells8 wr 0 _) (by omega) ?_; intro a3 c3 wc hc'; simp only [List.set_cons_zero] at hc'; have HC := Lib.hid hc'; clear hc')
      go_roundw
      case rel =>
        refine ⟨z + 1, a3, c3, by omega, by rw [HM.out]; rfl, ?_⟩
        have h := HC.out
        rw [List.append_assoc, ← List.replicate_succ', HM.out] at h
        exact h
      case measure => have := HM.out; simp only [lenV]; omega
end Spo
end Go.Proofs.YtfbpajiddkehnaaDoor
