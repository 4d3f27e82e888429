/- The landed package: Write. -/
import Derived.Test.YtfbpajiddkehnaaDoorSpoS
namespace Go.Proofs.YtfbpajiddkehnaaDoor
open Go.RowKit Go.Own
namespace Spo
open Go.KecM Go.SpoM Byt
open Kec (A64 u64V info_lanes one_cells)

theorem writeNil_any (v : Value) (w : World) : Calls Tryd.prog 13 #[.pointer none, v] w fun e w' => e = .returned (.tuple #[]) ∧ Below w.heap.size w w' := by
  go_enter Tryd.func13, Tryd.ntmps13
  go_wp2
  refine bodyPost_ret (results_none rfl _ _ _) rfl ?_
  exact ⟨rfl, Below.refl _ _⟩

theorem feed_next (q : KecM.St × Nat) (x : List UInt8) (j : Nat) (h : j < x.length) : feed q (x.take (j + 1)) = feed1 (feed q (x.take j)) (x.getD j 0) := by
  rw [take_succ' x j h, feed_append]; rfl
theorem feed1_full {s : KecM.St} {a : Nat} (h : a = 135) (c : UInt8) : feed1 (s, a) c = (perm 24 (xorAt s a c), 0) := by subst h; rfl
theorem feed1_part {s : KecM.St} {a : Nat} (h : a ≠ 135) (c : UInt8) : feed1 (s, a) c = (xorAt s a c, a + 1) := by unfold feed1; rw [if_neg h]

set_option maxHeartbeats 2000000 in
theorem writeK_any (W : World) (T : Kec.Tab W) (S D : Nat → Prop) (p : Nat) (q : KecM.St × Nat) (ao : Option Addr) (x : List UInt8) (n cap : Nat) (w : World) (hW : Below W.heap.size W w) (hpW : W.heap.size ≤ p) (hS : (AStt p q).holds S w) (hq : q.1.length = 25) (hp : q.2 < 136)
    (hV : View w D ao x) (hd : Dis D S) (hn : x.length = n) (hl : n ≤ 10000000) :
    Calls Tryd.prog 13 #[.pointer (some ⟨p, 0, none⟩), .slice ao n cap] w fun e w' => e = .returned (.tuple #[]) ∧ (AStt p (feed q x)).holds S w' ∧ Step S S w w' := by
  have HN := Lib.hid hn
  have HS := Lib.hid hS
  have HV := Lib.hid hV
  have HD := Lib.hid hd
  have HQ := Lib.hid hq
  have HP := Lib.hid hp
  have TAB : Hid (∀ wx, Step S S w wx → Kec.Tab wx) := fun wx hwx => T.later (hW.trans (hwx.below hW.size (fun k hk => by rw [(stt_set hS k).1 hk]; exact hpW)))
  clear hW hpW hS hq hp hV hd hn T
  go_enter Tryd.func13, Tryd.ntmps13
  go_wp2
  go_loopw [10] (fun v wr => ∃ j : Nat, j ≤ n ∧ v = .int .i64 (j : Int) ∧ (AStt p (feed q (x.take j))).holds S wr ∧ Step S S w wr) (fun v _ => n - (intOf v).toNat)
  case atStart => exact ⟨0, Nat.zero_le _, rfl, HS.out, Step.refl _ _⟩
  case round =>
    obtain ⟨j, hj, rfl, G, hst⟩ := hrel
    have G := Lib.hid G
    have HST := Lib.hid hst
    clear HS hst
    by_cases hjn : (j : Int) < (n : Int)
    · have hjl : j < x.length := by rw [HN.out]; omega
      obtain ⟨b, o, rfl, _, _, hcell⟩ := vat (HV.out.step HST.out HD.out) hjl
      obtain ⟨c, hc⟩ : ∃ c, c = x.getD j 0 := ⟨_, rfl⟩
      rw [← hc] at hcell
      obtain ⟨s1, hs1⟩ : ∃ s, s = (feed q (x.take j)).1 := ⟨_, rfl⟩
      obtain ⟨a1, ha1⟩ : ∃ a, a = (feed q (x.take j)).2 := ⟨_, rfl⟩
      have hqe : feed q (x.take j) = (s1, a1) := by rw [hs1, ha1]
      have L1 : Hid (s1.length = 25) := by show s1.length = 25; rw [hs1]; exact feed_len _ _ HQ.out
      have ha : a1 < 136 := by rw [ha1]; exact (feed_pos _ _ HP.out).2
      have HNEXT : Hid (feed q (x.take (j + 1)) = feed1 (s1, a1) c) := by
        show feed q (x.take (j + 1)) = feed1 (s1, a1) c
        rw [feed_next q x j hjl, hqe, ← hc]
      rw [hqe] at G
      obtain ⟨k, hk⟩ : ∃ k, k = a1 / 8 := ⟨_, rfl⟩
      have hk25 : k < 25 := by omega
      obtain ⟨z1, hz1⟩ : ∃ z, z = s1.getD k 0 := ⟨_, rfl⟩
      obtain ⟨z4, hz4⟩ : ∃ z, z = z1 ^^^ (BitVec.ofNat 64 c.toNat <<< (8 * (a1 % 8))) := ⟨_, rfl⟩
      obtain ⟨s2, hs2⟩ : ∃ s, s = s1.set k z4 := ⟨_, rfl⟩
      have HS2 : Hid (xorAt s1 a1 c = s2) := by
        show xorAt s1 a1 c = s2
        rw [hs2, hz4, hz1, hk]; rfl
      have L2 : Hid (s2.length = 25) := by show s2.length = 25; rw [hs2, List.length_set]; exact L1.out
      have HAT : Hid (∀ wx, Below wr.heap.size wr wx → wx.cell? ⟨p, 25, none⟩ = some (.int .i64 (a1 : Int))) := fun wx hwx => (stt_at (stt_later G.out hwx).1 L1.out).1
      have CMIX : Hid (∀ wx, Below wr.heap.size wr wx → Calls Tryd.prog 16 #[.pointer (some ⟨p, 0, none⟩), .int .i64 a1, .int .u8 c.toNat] wx fun e w' => e = .returned (.tuple #[]) ∧ (AStt p (s2, a1)).holds S w' ∧ Step S S wr w') := by
        intro wx hwx
        have g := stt_later G.out hwx
        obtain ⟨h1, h2⟩ := stt_word g.1 L1.out k hk25 hz1.symm
        refine (mixK_any p a1 ha c hz4 k hk wx h1 h2).mono ?_
        rintro e w' ⟨he, wd, hwd, rfl⟩
        have g2 := stt_later g.1 hwd
        have g3 := stt_setWord g2.1 L1.out k hk25 z4
        rw [hs2]
        exact ⟨he, g3.1, g.2.trans (g2.2.trans g3.2)⟩
      have HPR : Hid (AStt p (s1, a1) = AStt p (s1, a1)) := rfl
      clear hqe hs1 ha1 hk hz1 hz4 hs2 hc
      go_wp2_with (fail)
      refine wp_laxW_list 8 (by kernel_rfl) (by kernel_rfl) (by kernel_rfl) (by kernel_rfl) (by kernel_rfl) ?_
      simp only [List.take_succ_cons, List.take_zero, List.drop_succ_cons, List.drop_zero]
      refine wpL_move (.pointer (some ⟨p, 0, none⟩)) rfl (by kernel_rfl) (by kernel_rfl) (by kernel_rfl) (by kernel_rfl) ?_
      refine wpL_run1 (x := .tmp 14) (.pointer (some ⟨p, 0, none⟩)) (.pointer (some ⟨p, 0, none⟩)) (by kernel_rfl) (by kernel_rfl) (by kernel_rfl) (by kernel_rfl) (by kernel_rfl) (fun wx ρ hwx h0 hc => by simp [go_sem, h0, hc]) ?_
      refine wpL_run1 (x := .tmp 15) (.pointer (some ⟨p, 0, none⟩)) (.pointer (some ⟨p, 0, none⟩)) (by kernel_rfl) (by kernel_rfl) (by kernel_rfl) (by kernel_rfl) (by kernel_rfl) (fun wx ρ hwx h0 hc => by simp [go_sem, h0, hc]) ?_
      refine wpL_move (.pointer (some ⟨p, 0, none⟩)) rfl (by kernel_rfl) (by kernel_rfl) (by kernel_rfl) (by kernel_rfl) ?_
      refine wpL_run1 (x := .tmp 17) (.pointer (some ⟨p, 0, none⟩)) (.pointer (some ⟨p, 0, none⟩)) (by kernel_rfl) (by kernel_rfl) (by kernel_rfl) (by kernel_rfl) (by kernel_rfl) (fun wx ρ hwx h0 hc => by simp [go_sem, h0, hc]) ?_
      refine wpL_run1 (x := .tmp 18) (.pointer (some ⟨p, 0, none⟩)) (.pointer (some ⟨p, 25, none⟩)) (by kernel_rfl) (by kernel_rfl) (by kernel_rfl) (by kernel_rfl) (by kernel_rfl) (fun wx ρ hwx h0 hc => by simp [go_sem, h0, hc]) ?_
      refine wpL_run1 (x := .tmp 19) (.pointer (some ⟨p, 25, none⟩)) (.int .i64 (a1 : Int)) (by kernel_rfl) (by kernel_rfl) (by kernel_rfl) (by kernel_rfl) (by kernel_rfl) (fun wx ρ hwx h0 hc => by simp [go_sem, h0, hc, HAT.out wx hwx]) ?_
      refine wpL_move (.int .u8 (c.toNat : Int)) rfl (by kernel_rfl) (by kernel_rfl) (by kernel_rfl) (by kernel_rfl) ?_
      refine wpL_end (by kernel_rfl) (fun wd hwd => ?_)
      simp only [FinL, setL, List.set_cons_zero, List.set_cons_succ]
      intro _
      have HWD := Lib.hid hwd
      clear hwd
      go_wp2_with (fail)
      refine (CMIX.out wd HWD.out).mono ?_
      rintro e w2 ⟨rfl, hG2, hst2⟩
      have G2 := Lib.hid hG2
      have ST2 := Lib.hid (HST.out.trans hst2)
      clear hG2 hst2 CMIX HWD HAT G HST
      obtain ⟨c25, f25⟩ := stt_at G2.out L2.out
      have HG3 := stt_setAt G2.out L2.out (a1 + 1)
      have e1 : ((a1 + 1 : Nat) : Int) = (a1 : Int) + 1 := by simp
      rw [e1] at HG3
      have G3 := Lib.hid HG3.1
      have ST3 := Lib.hid (ST2.out.trans HG3.2)
      clear HG3 e1
      by_cases h135 : a1 = 135
      · have HA := Lib.hid h135
        have hgo : ((a1 : Int) + 1 == 136) = true := by simp; omega
        obtain ⟨rs, hrs⟩ : ∃ r, r = perm 24 s2 := ⟨_, rfl⟩
        have LR : Hid (rs.length = 25) := by rw [hrs]; exact perm_len _ _ L2.out
        have HPERM : Hid (∀ wx, Step S S w wx → Calls Tryd.prog 17 #[.agg (s2.map u64V).toArray] wx fun e w' => e = .returned (.agg (rs.map u64V).toArray) ∧ Below wx.heap.size wx w') := by
          intro wx hwx
          rw [hrs]
          exact Kec.permK_any s2 L2.out wx (TAB.out wx hwx)
        have HF : Hid (feed1 (s1, a1) c = (rs, 0)) := by
          show feed1 (s1, a1) c = (rs, 0)
          rw [feed1_full h135, HS2.out, hrs]
        have RNG := Lib.hid (stt_range G3.out L2.out)
        have INF : Hid ((Tryd.prog.info? 41).map (·.size) = some (s2.map u64V).length) := by
          have h := info_lanes s2 L2.out
          show (Tryd.prog.info? 41).map (·.size) = some (s2.map u64V).length
          simpa using h
        clear h135 hrs
        go_wp2_with (refine wpList_load_mid rfl 41 (.tmp 38) rfl p 0 rfl (s2.map u64V) _ RNG.out Tryd.underlying41 rfl INF.out ?_)
        refine (HPERM.out _ ST3.out).mono ?_
        rintro e w4 ⟨rfl, hw4⟩
        have g4 := stt_later G3.out hw4
        have G4 := Lib.hid g4.1
        have ST4 := Lib.hid (ST3.out.trans g4.2)
        clear g4 hw4 RNG INF HPERM G3 ST3
        have g5 := stt_setAll G4.out L2.out rs LR.out
        have G5 := Lib.hid g5.1
        have ST5 := Lib.hid (ST4.out.trans g5.2)
        have THERE := Lib.hid (stt_there G4.out L2.out rs LR.out)
        have INF2 := Lib.hid (info_lanes rs LR.out)
        have ONE := Lib.hid (one_cells rs)
        obtain ⟨d25, e25⟩ := stt_at G5.out LR.out
        have g6 := stt_setAt G5.out LR.out 0
        have G6 : Hid ((AStt p (rs, 0)).holds S ((w4.setCells p 0 (rs.map u64V).toArray.toList).setCell ⟨p, 25, none⟩ (.int .i64 0))) := g6.1
        have ST6 : Hid (Step S S w ((w4.setCells p 0 (rs.map u64V).toArray.toList).setCell ⟨p, 25, none⟩ (.int .i64 0))) := ST5.out.trans g6.2
        clear g5 g6 G4 ST4 G5 ST5
        go_wp2_with (refine wpList_store_mid rfl 41 (.tmp 42) (.tmp 40) rfl p 0 (rs.map u64V).toArray rfl rfl THERE.out INF2.out ONE.out ?_)
        go_roundw
        case rel =>
          refine ⟨j + 1, by omega, by go_num, ?_, ST6.out⟩
          rw [HNEXT.out, HF.out]
          exact G6.out
        case measure => simp [intOf]; omega
      · have hgo : ((a1 : Int) + 1 == 136) = false := by simp; omega
        have HF : Hid (feed1 (s1, a1) c = (s2, a1 + 1)) := by
          show feed1 (s1, a1) c = (s2, a1 + 1)
          rw [feed1_part h135, HS2.out]
        clear h135
        go_wp2
        go_roundw
        case rel =>
          refine ⟨j + 1, by omega, by go_num, ?_, ST3.out⟩
          rw [HNEXT.out, HF.out]
          exact G3.out
        case measure => simp [intOf]; omega
    · have HJ : Hid (x.take j = x) := by
        show x.take j = x
        exact List.take_of_length_le (by rw [HN.out]; omega)
      go_wp2
      go_end0
      refine ⟨rfl, ?_, HST.out⟩
      have h := G.out
      rw [HJ.out] at h
      exact h
end Spo
end Go.Proofs.YtfbpajiddkehnaaDoor
