/- The landed package: Sum of a State, Sum; what sponge keeps. -/
import Derived.Test.YtfbpajiddkehnaaDoorSpoT
import Derived.Test.YtfbpajiddkehnaaDoorSpoQ
namespace Go.Proofs.YtfbpajiddkehnaaDoor
open Go.RowKit Go.Own
namespace Spo
open Go.KecM Go.SpoM Byt
open Kec (A64 u64V info_lanes one_cells)

theorem load_i64 {o : Oper} {x : Operand} (ho : o.op = .load 3 x) {ad : Addr} {v : Int} {w : World} (hc : w.cell? ad = some (.int .i64 v)) {ρ : Operand → Value} (h0 : ρ x = .pointer (some ad)) : (execOp ρ o).run Tryd.prog w = .ok (.value (.int .i64 v)) w := by
  simp [execOp, ho, h0, go_sem, hc]

set_option maxHeartbeats 2000000 in
theorem sumK_any (W : World) (T : Kec.Tab W) (S : Nat → Prop) (p : Nat) (q : KecM.St × Nat) (w : World) (hW : Below W.heap.size W w) (hS : (AStt p q).holds S w) (hq : q.1.length = 25) (hp : q.2 < 136) :
    Calls Tryd.prog 14 #[.pointer (some ⟨p, 0, none⟩)] w fun e w' => e = .returned (.agg ((squeeze (fin q)).map byteV).toArray) ∧ Below w.heap.size w w' := by
  obtain ⟨s0, a0⟩ := q
  have L0 : Hid (s0.length = 25) := hq
  have hp' : a0 < 136 := hp
  have HS := Lib.hid hS
  have TAB : Hid (∀ wx, Below w.heap.size w wx → Kec.Tab wx) := fun wx hwx => T.later (hW.trans (hwx.mono hW.size))
  have HSX : Hid (∀ wx, Below w.heap.size w wx → (AStt p (s0, a0)).holds S wx) := fun wx hwx => (stt_later HS.out hwx).1
  obtain ⟨s1, hs1⟩ : ∃ s, s = xorAt s0 a0 6 := ⟨_, rfl⟩
  obtain ⟨s2, hs2⟩ : ∃ s, s = xorAt s1 135 128 := ⟨_, rfl⟩
  obtain ⟨s3, hs3⟩ : ∃ s, s = perm 24 s2 := ⟨_, rfl⟩
  obtain ⟨rs, hrs⟩ : ∃ r, r = squeeze s3 := ⟨_, rfl⟩
  have L1 : Hid (s1.length = 25) := by show s1.length = 25; rw [hs1, xorAt_len]; exact L0.out
  have L2 : Hid (s2.length = 25) := by show s2.length = 25; rw [hs2, xorAt_len]; exact L1.out
  have L3 : Hid (s3.length = 25) := by rw [hs3]; exact perm_len _ _ L2.out
  have LR : Hid (rs.length = 32) := by rw [hrs]; exact squeeze_len _
  have HRS : Hid (rs = squeeze (fin (s0, a0))) := by
    show rs = squeeze (fin (s0, a0))
    rw [hrs, hs3, hs2, hs1]; rfl
  -- mix into an array of one's own
  have CM : ∀ (l i : Nat) (c : UInt8) (s t : KecM.St), s.length = 25 → i < 136 → t = xorAt s i c → ∀ (Ps : List Asn) (wx : World), Own.St w.heap.size w wx (A64 l 41 s :: Ps) →
      Calls Tryd.prog 16 #[.pointer (some ⟨l, 0, none⟩), .int .i64 i, .int .u8 c.toNat] wx fun e w' => e = .returned (.tuple #[]) ∧ Own.St w.heap.size w w' (A64 l 41 t :: Ps) := by
    intro l i c s t hs hi ht Ps wx H
    obtain ⟨h1, h2⟩ := A64.cell H 0 rfl (i / 8) (by omega) rfl
    refine (mixK_any l i hi c rfl (i / 8) rfl wx h1 h2).mono ?_
    rintro e w' ⟨he, wd, hwd, rfl⟩
    have H2 := A64.store (H.later hwd) 0 rfl (i / 8) (s.getD (i / 8) 0 ^^^ (BitVec.ofNat 64 c.toNat <<< (8 * (i % 8))))
    refine ⟨he, ?_⟩
    rw [ht]
    exact H2
  have C1 := Lib.hid (fun l => CM l a0 6 s0 s1 L0.out hp' hs1)
  have C2 := Lib.hid (fun l => CM l 135 128 s1 s2 L1.out (by omega) hs2)
  have C3 : Hid (∀ wx, Below w.heap.size w wx → Calls Tryd.prog 17 #[.agg (s2.map u64V).toArray] wx fun e w' => e = .returned (.agg (s3.map u64V).toArray) ∧ Below wx.heap.size wx w') := fun wx hwx => by
    rw [hs3]; exact Kec.permK_any s2 L2.out wx (TAB.out wx hwx)
  have C4 : Hid (∀ wx, Calls Tryd.prog 18 #[.agg (s3.map u64V).toArray] wx fun e w' => e = .returned (.agg (rs.map byteV).toArray) ∧ Below wx.heap.size wx w') := fun wx => by
    rw [hrs]; exact frontK_any s3 L3.out wx
  have INF : Hid ((Tryd.prog.info? 41).map (·.size) = some (s0.map u64V).length) := by
    have h := info_lanes s0 L0.out
    show (Tryd.prog.info? 41).map (·.size) = some (s0.map u64V).length
    simpa using h
  have I0 := Lib.hid (info_lanes s0 L0.out)
  have I2 := Lib.hid (info_lanes s2 L2.out)
  have O0 := Lib.hid (one_cells s0)
  have IR := Lib.hid (info_sum rs LR.out)
  have OR := Lib.hid (one8 rs)
  clear hW hS hq hp T CM hs1 hs2 hs3 hrs
  obtain ⟨br, hbr⟩ : ∃ b, b = w.heap.size := ⟨_, rfl⟩
  go_enter Tryd.func14, Tryd.ntmps14
  have H1 := Lib.hid (A8.box (Own.St.start w) 25 (List.replicate 32 0))
  have RNG := Lib.hid (stt_range (HSX.out _ H1.out.below) L0.out)
  obtain ⟨c25, _⟩ := stt_at HS.out L0.out
  have H2 := A64.box H1.out 41 (List.replicate 25 0)
  have ALL := Lib.hid (A64.setAll H2 0 rfl s0 (by rw [L0.out]; rfl))
  have THERE := Lib.hid (A64.there H2 0 rfl s0 (by rw [L0.out]; rfl))
  have D25 := Lib.hid (stt_at (HSX.out _ ALL.out.below) L0.out).1
  simp only [size_alloc'] at ALL THERE D25
  clear H2
  go_wp2_with (first
    | (refine wpList_load_mid rfl 41 (.tmp 9) rfl p 0 rfl (s0.map u64V) _ RNG.out Tryd.underlying41 rfl INF.out ?_)
    | (refine wpList_store_mid rfl 41 (.tmp 3) (.tmp 10) rfl (w.heap.size + 1) 0 (s0.map u64V).toArray rfl rfl THERE.out I0.out O0.out ?_)
    | (refine Byt.wpList_val rfl (load_i64 (x := .tmp 13) rfl D25.out rfl) ?_))
  refine (C1.out _ _ _ ALL.out).mono ?_
  rintro e wa ⟨rfl, ha⟩
  have GA := Lib.hid ha
  clear ha ALL THERE RNG D25 c25 H1
  go_wp2_with (fail)
  refine (C2.out _ _ _ GA.out).mono ?_
  rintro e wb ⟨rfl, hb⟩
  have GB := Lib.hid hb
  clear hb GA
  have ROW := Lib.hid (A64.row GB.out 0 rfl)
  go_wp2_with (refine wpList_load_row rfl 41 (.tmp 3) rfl (w.heap.size + 1) rfl 41 _ (0, 0) _ ROW.out Tryd.underlying41 rfl I2.out ?_)
  refine (C3.out wb GB.out.below).mono ?_
  rintro e wc ⟨rfl, hc⟩
  have GC := Lib.hid (GB.out.later hc)
  clear hc GB ROW
  go_wp2_with (fail)
  refine (C4.out wc).mono ?_
  rintro e wd ⟨rfl, hd⟩
  have GD := Lib.hid (GC.out.later hd)
  clear hd GC
  have LAST := Lib.hid (A8.setAll GD.out 1 rfl rs (by rw [LR.out]; rfl))
  have THERE := Lib.hid (A8.there GD.out 1 rfl rs (by rw [LR.out]; rfl))
  go_wp2_with (refine wpList_store_mid rfl 25 (.tmp 2) (.tmp 19) rfl w.heap.size 0 (rs.map byteV).toArray rfl rfl THERE.out IR.out OR.out ?_)
  have END := Lib.hid (A8.row LAST.out 1 rfl)
  refine bodyPost_ret (results_cell_row rfl _ _ w.heap.size 25 _ (0, 0) _ rfl END.out Tryd.underlying25 rfl IR.out) rfl ?_
  refine ⟨?_, LAST.out.below⟩
  rw [HRS.out]

/-- a State as an object of the walks: behind W -/
def HK (W : World) (p : Nat) (a : List UInt8) (S : Nat → Prop) (w : World) : Prop := (AStt p (feed (zeroSt, 0) a)).holds S w ∧ W.heap.size ≤ p
theorem HK.keep {W : World} {p : Nat} {a : List UInt8} {S T U : Nat → Prop} {w w' : World} (h : HK W p a S w) (g : Step T U w w') (hd : Dis S T) : HK W p a S w' := ⟨(AStt p _).keep h.1 g hd, h.2⟩
theorem HK.lt {W : World} {p : Nat} {a : List UInt8} {S : Nat → Prop} {w : World} (h : HK W p a S w) : ∀ k, S k → k < w.heap.size := (AStt p _).lt h.1
def AK (W : World) (p : Nat) (a : List UInt8) : Asn := ⟨HK W p a, HK.keep, HK.lt⟩
theorem feed0 (a : List UInt8) : (feed (zeroSt, 0) a).1.length = 25 ∧ (feed (zeroSt, 0) a).2 < 136 := ⟨feed_len _ _ rfl, (feed_pos _ _ (by show 0 < 136; omega)).2⟩
theorem newH (W w : World) (hW : Below W.heap.size W w) : Calls Tryd.prog 12 #[] w fun e w' => ∃ p S, e = .returned (.pointer (some ⟨p, 0, none⟩)) ∧ HK W p [] S w' ∧ Step (fun _ => False) S w w' := by
  refine (newK_any w).mono ?_
  rintro e w' ⟨p, S, he, hS, hst⟩
  refine ⟨p, S, he, ⟨hS, ?_⟩, hst⟩
  rcases hst.new p ((stt_set hS p).2 rfl) with h | h
  · exact h.elim
  · exact Nat.le_trans hW.size h
theorem writeH (W : World) (T : Kec.Tab W) (S D : Nat → Prop) (p : Nat) (a : List UInt8) (ao : Option Addr) (x : List UInt8) (n cap : Nat) (w : World) (hW : Below W.heap.size W w) (hS : HK W p a S w) (hV : View w D ao x) (hd : Dis D S) (hn : x.length = n) (hl : n ≤ 10000000) :
    Calls Tryd.prog 13 #[.pointer (some ⟨p, 0, none⟩), .slice ao n cap] w fun e w' => e = .returned (.tuple #[]) ∧ HK W p (a ++ x) S w' ∧ Step S S w w' := by
  refine (writeK_any W T S D p _ ao x n cap w hW hS.2 hS.1 (feed0 a).1 (feed0 a).2 hV hd hn hl).mono ?_
  rintro e w' ⟨he, h1, h2⟩
  rw [← feed_append] at h1
  exact ⟨he, ⟨h1, hS.2⟩, h2⟩
theorem sumH (W : World) (T : Kec.Tab W) (S : Nat → Prop) (p : Nat) (a : List UInt8) (w : World) (hW : Below W.heap.size W w) (hS : HK W p a S w) :
    Calls Tryd.prog 14 #[.pointer (some ⟨p, 0, none⟩)] w fun e w' => e = .returned (sumV a) ∧ Below w.heap.size w w' :=
  sumK_any W T S p _ w hW hS.1 (feed0 a).1 (feed0 a).2

theorem parts_len {w : World} {v : Value} {ls : List (List UInt8)} (h : PartsAt w v ls) : ∃ ao cap, v = .slice ao ls.length cap := by
  rcases h with ⟨rfl, rfl⟩ | ⟨b, cap, rfl, _⟩
  · exact ⟨none, 0, rfl⟩
  · exact ⟨_, cap, rfl⟩
theorem take_flat (ls : List (List UInt8)) (j : Nat) (h : j < ls.length) : (ls.take (j + 1)).flatten = (ls.take j).flatten ++ ls.getD j [] := by
  rw [List.take_succ_eq_append_getElem h, List.flatten_append]
  simp [h]
theorem part_le (ls : List (List UInt8)) (j : Nat) (h : j < ls.length) : (ls.getD j []).length ≤ ls.flatten.length := by
  have e : ls.flatten = (ls.take (j + 1)).flatten ++ (ls.drop (j + 1)).flatten := by rw [← List.flatten_append, List.take_append_drop]
  rw [take_flat ls j h] at e
  have := congrArg List.length e
  simp only [List.length_append] at this
  omega

set_option maxHeartbeats 2000000 in
theorem allH (W : World) (T : Kec.Tab W) (v : Value) (ls : List (List UInt8)) (w : World) (hW : Below W.heap.size W w) (hp : PartsAt w v ls) (hl : ls.flatten.length ≤ 10000000) (hln : ls.length ≤ 1000) :
    Calls Tryd.prog 9 #[v] w fun e w' => e = .returned (sumV ls.flatten) ∧ Below w.heap.size w w' := by
  obtain ⟨n, hn⟩ : ∃ n, n = ls.length := ⟨_, rfl⟩
  obtain ⟨ao, cap, hv⟩ := parts_len hp
  rw [← hn] at hv
  rw [← hn] at hln
  subst hv
  have HN := Lib.hid hn
  have HPA : Hid (∀ j, j < ls.length → ∃ b aj cj, ao = some ⟨b, 0, none⟩ ∧ ∀ wx, Below w.heap.size w wx → wx.cell? ⟨b, j, none⟩ = some (.slice aj (ls.getD j []).length cj) ∧ View wx (fun k => k < w.heap.size) aj (ls.getD j [])) := by
    intro j hj
    rcases hp with ⟨_, h0⟩ | ⟨b, cap', hb, hbw, hc⟩
    · rw [h0] at hj; simp at hj
    simp only [Value.slice.injEq] at hb
    obtain ⟨aj, cj, hcell, hview, _, _, _⟩ := hc j hj
    exact ⟨b, aj, cj, hb.1, fun wx hwx => ⟨(World.cell?_of_block (w := w) (hwx.block b hbw)).trans hcell, vlater hview hwx⟩⟩
  have HB : Hid (∀ wx, Below w.heap.size w wx → Below W.heap.size W wx) := fun wx hwx => hW.trans (hwx.mono hW.size)
  have HL := Lib.hid hl
  have TT := Lib.hid T
  clear hW hp hl hn T
  go_enter Tryd.func9, Tryd.ntmps9
  have H1 := Lib.hid (A8.box (Own.St.start w) 25 (List.replicate 32 0))
  go_wp2_with (fail)
  refine (newH W _ (HB.out _ H1.out.below)).mono ?_
  rintro e wa ⟨p, S, rfl, hS, hst⟩
  obtain ⟨br, hbr⟩ : ∃ b, b = w.heap.size := ⟨_, rfl⟩
  have G0 : Hid (Own.St w.heap.size w wa [AK W p (ls.take 0).flatten, A8 br 25 (List.replicate 32 0)]) := by
    rw [hbr]
    exact H1.out.new (AK W p []) hS hst
  rw [← hbr]
  clear hS hst H1 hbr
  go_wp2_with (fail)
  go_loopw [9] (fun v wr => ∃ j : Nat, j ≤ n ∧ v = .int .i64 (j : Int) ∧ Own.St w.heap.size w wr [AK W p (ls.take j).flatten, A8 br 25 (List.replicate 32 0)]) (fun v _ => n - (intOf v).toNat)
  case atStart => exact ⟨0, Nat.zero_le _, rfl, G0.out⟩
  case round =>
    obtain ⟨j, hj, rfl, G⟩ := hrel
    have G := Lib.hid G
    clear G0
    by_cases hjn : (j : Int) < (n : Int)
    · have hjl : j < ls.length := by rw [← HN.out]; omega
      obtain ⟨x, hx⟩ : ∃ x, x = ls.getD j [] := ⟨_, rfl⟩
      have HX : Hid ((ls.take (j + 1)).flatten = (ls.take j).flatten ++ x) := by
        show (ls.take (j + 1)).flatten = (ls.take j).flatten ++ x
        rw [take_flat ls j hjl, hx]
      have hxl : x.length ≤ 10000000 := by
        rw [hx]
        exact Nat.le_trans (part_le ls j hjl) HL.out
      obtain ⟨m, hm⟩ : ∃ m, x.length = m := ⟨_, rfl⟩
      obtain ⟨b, aj, cj, rfl, hc⟩ := HPA.out j hjl
      obtain ⟨hcell, hview⟩ := hc wr G.out.below
      rw [← hx, hm] at hcell
      rw [← hx] at hview
      have CW : Hid (Calls Tryd.prog 13 #[.pointer (some ⟨p, 0, none⟩), .slice aj m cj] wr fun e w' => e = .returned (.tuple #[]) ∧ Own.St w.heap.size w w' [AK W p (ls.take (j + 1)).flatten, A8 br 25 (List.replicate 32 0)]) := by
        obtain ⟨S, hS, hSB, put⟩ := G.out.at 0 rfl
        refine (writeH W TT.out S (fun k => k < w.heap.size) p _ aj x m cj wr (HB.out _ G.out.below) hS hview (fun k hk h => by have := hSB k h; omega) hm (by rw [← hm]; exact hxl)).mono ?_
        rintro e w' ⟨he, h1, h2⟩
        refine ⟨he, ?_⟩
        have h3 := put S w' (AK W p ((ls.take j).flatten ++ x)) h1 h2
        rw [← HX.out] at h3
        exact h3
      clear hc hx hview
      go_wp2_with (fail)
      refine CW.out.mono ?_
      rintro e w2 ⟨rfl, H2⟩
      have G2 := Lib.hid H2
      clear H2 CW
      go_wp2
      go_roundw
      case rel => exact ⟨j + 1, by omega, by go_num, G2.out⟩
      case measure => simp [intOf]; omega
    · obtain ⟨rs, hrs⟩ : ∃ r, r = sha ls.flatten := ⟨_, rfl⟩
      have LR : Hid (rs.length = 32) := by rw [hrs]; exact sha_len _
      have HRS : Hid (sumV ls.flatten = .agg (rs.map byteV).toArray) := by rw [hrs]; exact rfl
      have HJ : Hid ((ls.take j).flatten = ls.flatten) := by
        show (ls.take j).flatten = ls.flatten
        rw [List.take_of_length_le (by rw [← HN.out]; omega)]
      have CS : Hid (Calls Tryd.prog 14 #[.pointer (some ⟨p, 0, none⟩)] wr fun e w' => e = .returned (.agg (rs.map byteV).toArray) ∧ Below wr.heap.size wr w') := by
        obtain ⟨S, hS, _⟩ := G.out.at 0 rfl
        have h := sumH W TT.out S p _ wr (HB.out _ G.out.below) hS
        rw [HJ.out, HRS.out] at h
        exact h
      have IR := Lib.hid (info_sum rs LR.out)
      have OR := Lib.hid (one8 rs)
      clear hrs
      go_wp2_with (fail)
      refine CS.out.mono ?_
      rintro e wd ⟨rfl, hd⟩
      have GD := Lib.hid (G.out.later hd)
      clear hd CS G
      have LAST := Lib.hid (A8.setAll GD.out 1 rfl rs (by rw [LR.out]; rfl))
      have THERE := Lib.hid (A8.there GD.out 1 rfl rs (by rw [LR.out]; rfl))
      go_wp2_with (refine wpList_store_mid rfl 25 (.tmp 2) (.tmp 18) rfl br 0 (rs.map byteV).toArray rfl rfl THERE.out IR.out OR.out ?_)
      have END := Lib.hid (A8.row LAST.out 1 rfl)
      refine bodyPost_ret (results_cell_row rfl _ _ br 25 _ (0, 0) _ rfl END.out Tryd.underlying25 rfl IR.out) rfl ?_
      refine ⟨?_, LAST.out.below⟩
      rw [HRS.out]
end Spo
end Go.Proofs.YtfbpajiddkehnaaDoor

namespace Go.Proofs.YtfbpajiddkehnaaDoor
open Go.RowKit Go.Own
namespace Spo
open Go.KecM Go.SpoM Byt

theorem sumNil (W : World) (T : Kec.Tab W) (w : World) (hW : Below W.heap.size W w) : Calls Tryd.prog 14 #[.pointer none] w fun e w' => e = .returned (sumV []) ∧ Below w.heap.size w w' := by
  obtain ⟨rs, hrs⟩ : ∃ r, r = sha [] := ⟨_, rfl⟩
  have LR : Hid (rs.length = 32) := by rw [hrs]; exact sha_len _
  have HRS : Hid (sumV [] = .agg (rs.map byteV).toArray) := by rw [hrs]; exact rfl
  have CS : Hid (∀ wx, Below w.heap.size w wx → Calls Tryd.prog 9 #[.slice none 0 0] wx fun e w' => e = .returned (.agg (rs.map byteV).toArray) ∧ Below wx.heap.size wx w') := by
    intro wx hwx
    have h := allH W T (.slice none 0 0) [] wx (hW.trans (hwx.mono hW.size)) (.inl ⟨rfl, rfl⟩) (by simp) (by simp)
    rw [show ([] : List (List UInt8)).flatten = [] from rfl, HRS.out] at h
    exact h
  have IR := Lib.hid (info_sum rs LR.out)
  have OR := Lib.hid (one8 rs)
  clear hrs hW T
  rw [HRS.out]
  go_enter Tryd.func14, Tryd.ntmps14
  have H1 := Lib.hid (A8.box (Own.St.start w) 25 (List.replicate 32 0))
  go_wp2_with (fail)
  refine (CS.out _ H1.out.below).mono ?_
  rintro e wd ⟨rfl, hd⟩
  have GD := Lib.hid (H1.out.later hd)
  clear hd CS H1
  have LAST := Lib.hid (A8.setAll GD.out 0 rfl rs (by rw [LR.out]; rfl))
  have THERE := Lib.hid (A8.there GD.out 0 rfl rs (by rw [LR.out]; rfl))
  go_wp2_with (refine wpList_store_mid rfl 25 (.tmp 2) (.tmp 6) rfl w.heap.size 0 (rs.map byteV).toArray rfl rfl THERE.out IR.out OR.out ?_)
  have END := Lib.hid (A8.row LAST.out 0 rfl)
  refine bodyPost_ret (results_cell_row rfl _ _ w.heap.size 25 _ (0, 0) _ rfl END.out Tryd.underlying25 rfl IR.out) rfl ?_
  exact ⟨rfl, LAST.out.below⟩

/-- WHAT THE LANDED PACKAGE KEEPS, where keccak's table is -/
def kept (W : World) (T : Kec.Tab W) : Kept W where
  H p a S w := HK W p a S w
  keep h g hd := HK.keep h g hd
  lt h := HK.lt h
  new w h := newH W w h
  write S D p a ao x cap w h hS hV hd h1 h2 h3 hl := (writeH W T S D p a ao x x.length cap w h hS hV hd rfl (by omega)).mono fun e w' ⟨he, h4, h5⟩ => ⟨he, S, h4, h5⟩
  sum S p a w h hS hl := sumH W T S p a w h hS
  nilWrite ao n cap w := writeNil_any (.slice ao n cap) w
  nilSum w h := sumNil W T w h
  all v ls w h hp hl hn := allH W T v ls w h hp hl hn
end Spo
end Go.Proofs.YtfbpajiddkehnaaDoor
