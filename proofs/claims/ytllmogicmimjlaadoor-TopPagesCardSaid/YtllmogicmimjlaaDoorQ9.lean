/- Merged: SpoU KecG LawSpoC LawTop KeyI TopI -/
import Derived.Test.YtllmogicmimjlaaDoorRows
import Derived.LaidMore
import Derived.Lib.LaidTab
import Derived.Test.YtllmogicmimjlaaDoorQ1
import Derived.Test.YtllmogicmimjlaaDoorQ2
import Derived.Test.YtllmogicmimjlaaDoorQ4
import Derived.Test.YtllmogicmimjlaaDoorQ7
import Derived.Test.YtllmogicmimjlaaDoorQ8
set_option linter.unusedVariables false
section
namespace Go.Proofs.YtllmogicmimjlaaDoor
open Go.RowKit Go.Own
namespace Spo
open Go.KecM Go.SpoM Byt
open Kec (A64 u64V info_lanes one_cells)

theorem load_i64 {o : Oper} {x : Operand} (ho : o.op = .load 3 x) {ad : Addr} {v : Int} {w : World} (hc : w.cell? ad = some (.int .i64 v)) {ρ : Operand → Value} (h0 : ρ x = .pointer (some ad)) : (execOp ρ o).run Tryd.prog w = .ok (.value (.int .i64 v)) w := by
  simp [execOp, ho, h0, go_sem, hc]

set_option maxRecDepth 10000 in
set_option maxHeartbeats 2000000 in
theorem sumK_any (W : World) (T : Kec.Tab W) (S : Nat → Prop) (p : Nat) (q : KecM.St × Nat) (w : World) (hW : Below W.heap.size W w) (hS : (AStt p q).holds S w) (hq : q.1.length = 25) (hp : q.2 < 136) :
    Calls Tryd.prog 17 #[.pointer (some ⟨p, 0, none⟩)] w fun e w' => e = .returned (.agg ((squeeze (fin q)).map byteV).toArray) ∧ Below w.heap.size w w' := by
  obtain ⟨s0, a0⟩ := q
  have L0 : Hid (s0.length = 25) := hq
  have hp' : a0 < 136 := hp
  have HS := Lib.hid hS
  have TAB : Hid (∀ wx, Below w.heap.size w wx → Kec.Tab wx) := fun wx hwx => T.later (hW.trans (hwx.mono hW.size))
  have HSX : Hid (∀ wx, Below w.heap.size w wx → (AStt p (s0, a0)).holds S wx) := fun wx hwx => (stt_later HS.out hwx).1
  obtain ⟨s1, hs1⟩ : ∃ s, s = xorAt s0 a0 6 := ⟨_, rfl⟩
  obtain ⟨s2, hs2⟩ : ∃ s, s = xorAt s1 135 128 := ⟨_, rfl⟩
  obtain ⟨s3, hs3⟩ : ∃ s, s = perm 24 s2 := ⟨_, rfl⟩
  obtain ⟨rs, hrs⟩ : ∃ r, r = squeeze s3 := ⟨_, rfl⟩
  have L1 : Hid (s1.length = 25) := by show s1.length = 25; rw [hs1, xorAt_len]; exact L0.out
  have L2 : Hid (s2.length = 25) := by show s2.length = 25; rw [hs2, xorAt_len]; exact L1.out
  have L3 : Hid (s3.length = 25) := by rw [hs3]; exact perm_len _ _ L2.out
  have LR : Hid (rs.length = 32) := by rw [hrs]; exact squeeze_len _
  have HRS : Hid (rs = squeeze (fin (s0, a0))) := by
    show rs = squeeze (fin (s0, a0))
    rw [hrs, hs3, hs2, hs1]; rfl
  -- mix into an array of one's own
  have CM : ∀ (l i : Nat) (c : UInt8) (s t : KecM.St), s.length = 25 → i < 136 → t = xorAt s i c → ∀ (Ps : List Asn) (wx : World), Own.St w.heap.size w wx (A64 l 76 s :: Ps) →
      Calls Tryd.prog 37 #[.pointer (some ⟨l, 0, none⟩), .int .i64 i, .int .u8 c.toNat] wx fun e w' => e = .returned (.tuple #[]) ∧ Own.St w.heap.size w w' (A64 l 76 t :: Ps) := by
    intro l i c s t hs hi ht Ps wx H
    obtain ⟨h1, h2⟩ := A64.cell H 0 rfl (i / 8) (by omega) rfl
    refine (mixK_any l i hi c rfl (i / 8) rfl wx h1 h2).mono ?_
    rintro e w' ⟨he, wd, hwd, rfl⟩
    have H2 := A64.store (H.later hwd) 0 rfl (i / 8) (s.getD (i / 8) 0 ^^^ (BitVec.ofNat 64 c.toNat <<< (8 * (i % 8))))
    refine ⟨he, ?_⟩
    rw [ht]
    exact H2
  have C1 := Lib.hid (fun l => CM l a0 6 s0 s1 L0.out hp' hs1)
  have C2 := Lib.hid (fun l => CM l 135 128 s1 s2 L1.out (by omega) hs2)
  have C3 : Hid (∀ wx, Below w.heap.size w wx → Calls Tryd.prog 38 #[.agg (s2.map u64V).toArray] wx fun e w' => e = .returned (.agg (s3.map u64V).toArray) ∧ Below wx.heap.size wx w') := fun wx hwx => by
    rw [hs3]; exact Kec.permK_any s2 L2.out wx (TAB.out wx hwx)
  have C4 : Hid (∀ wx, Calls Tryd.prog 39 #[.agg (s3.map u64V).toArray] wx fun e w' => e = .returned (.agg (rs.map byteV).toArray) ∧ Below wx.heap.size wx w') := fun wx => by
    rw [hrs]; exact frontK_any s3 L3.out wx
  have INF : Hid ((Tryd.prog.info? 76).map (·.size) = some (s0.map u64V).length) := by
    have h := info_lanes s0 L0.out
    show (Tryd.prog.info? 76).map (·.size) = some (s0.map u64V).length
    simpa using h
  have I0 := Lib.hid (info_lanes s0 L0.out)
  have I2 := Lib.hid (info_lanes s2 L2.out)
  have O0 := Lib.hid (one_cells s0)
  have IR := Lib.hid (info_sum rs LR.out)
  have OR := Lib.hid (one8 rs)
  clear hW hS hq hp T CM hs1 hs2 hs3 hrs
  obtain ⟨br, hbr⟩ : ∃ b, b = w.heap.size := ⟨_, rfl⟩
  go_enter Tryd.func17, Tryd.ntmps17
  have H1 := Lib.hid (A8.box (Own.St.start w) 29 (List.replicate 32 0))
  have RNG := Lib.hid (stt_range (HSX.out _ H1.out.below) L0.out)
  obtain ⟨c25, _⟩ := stt_at HS.out L0.out
  have H2 := A64.box H1.out 76 (List.replicate 25 0)
  have ALL := Lib.hid (A64.setAll H2 0 rfl s0 (by rw [L0.out]; rfl))
  have THERE := Lib.hid (A64.there H2 0 rfl s0 (by rw [L0.out]; rfl))
  have D25 := Lib.hid (stt_at (HSX.out _ ALL.out.below) L0.out).1
  simp only [size_alloc'] at ALL THERE D25
  clear H2
  go_wp2_with (first
    | (refine wpList_load_mid rfl 76 (.tmp 9) rfl p 0 rfl (s0.map u64V) _ RNG.out Tryd.underlying76 rfl INF.out ?_)
    | (refine wpList_store_mid rfl 76 (.tmp 3) (.tmp 10) rfl (w.heap.size + 1) 0 (s0.map u64V).toArray rfl rfl THERE.out I0.out O0.out ?_)
    | (refine Byt.wpList_val rfl (load_i64 (x := .tmp 13) rfl D25.out rfl) ?_))
  refine (C1.out _ _ _ ALL.out).mono ?_
  rintro e wa ⟨rfl, ha⟩
  have GA := Lib.hid ha
  clear ha ALL THERE RNG D25 c25 H1
  go_wp2_with (fail)
  refine (C2.out _ _ _ GA.out).mono ?_
  rintro e wb ⟨rfl, hb⟩
  have GB := Lib.hid hb
  clear hb GA
  have ROW := Lib.hid (A64.row GB.out 0 rfl)
  go_wp2_with (refine wpList_load_row rfl 76 (.tmp 3) rfl (w.heap.size + 1) rfl 76 _ (0, 0) _ ROW.out Tryd.underlying76 rfl I2.out ?_)
  refine (C3.out wb GB.out.below).mono ?_
  rintro e wc ⟨rfl, hc⟩
  have GC := Lib.hid (GB.out.later hc)
  clear hc GB ROW
  go_wp2_with (fail)
  refine (C4.out wc).mono ?_
  rintro e wd ⟨rfl, hd⟩
  have GD := Lib.hid (GC.out.later hd)
  clear hd GC
  have LAST := Lib.hid (A8.setAll GD.out 1 rfl rs (by rw [LR.out]; rfl))
  have THERE := Lib.hid (A8.there GD.out 1 rfl rs (by rw [LR.out]; rfl))
  go_wp2_with (refine wpList_store_mid rfl 29 (.tmp 2) (.tmp 19) rfl w.heap.size 0 (rs.map byteV).toArray rfl rfl THERE.out IR.out OR.out ?_)
  have END := Lib.hid (A8.row LAST.out 1 rfl)
  refine bodyPost_ret (results_cell_row rfl _ _ w.heap.size 29 _ (0, 0) _ rfl END.out Tryd.underlying29 rfl IR.out) rfl ?_
  refine ⟨?_, LAST.out.below⟩
  rw [HRS.out]

/-- a State as an object of the walks: behind W -/
def HK (W : World) (p : Nat) (a : List UInt8) (S : Nat → Prop) (w : World) : Prop := (AStt p (feed (zeroSt, 0) a)).holds S w ∧ W.heap.size ≤ p
theorem HK.keep {W : World} {p : Nat} {a : List UInt8} {S T U : Nat → Prop} {w w' : World} (h : HK W p a S w) (g : Step T U w w') (hd : Dis S T) : HK W p a S w' := ⟨(AStt p _).keep h.1 g hd, h.2⟩
theorem HK.lt {W : World} {p : Nat} {a : List UInt8} {S : Nat → Prop} {w : World} (h : HK W p a S w) : ∀ k, S k → k < w.heap.size := (AStt p _).lt h.1
def AK (W : World) (p : Nat) (a : List UInt8) : Asn := ⟨HK W p a, HK.keep, HK.lt⟩
theorem feed0 (a : List UInt8) : (feed (zeroSt, 0) a).1.length = 25 ∧ (feed (zeroSt, 0) a).2 < 136 := ⟨feed_len _ _ rfl, (feed_pos _ _ (by show 0 < 136; omega)).2⟩
theorem newH (W w : World) (hW : Below W.heap.size W w) : Calls Tryd.prog 15 #[] w fun e w' => ∃ p S, e = .returned (.pointer (some ⟨p, 0, none⟩)) ∧ HK W p [] S w' ∧ Step (fun _ => False) S w w' := by
  refine (newK_any w).mono ?_
  rintro e w' ⟨p, S, he, hS, hst⟩
  refine ⟨p, S, he, ⟨hS, ?_⟩, hst⟩
  rcases hst.new p ((stt_set hS p).2 rfl) with h | h
  · exact h.elim
  · exact Nat.le_trans hW.size h
theorem writeH (W : World) (T : Kec.Tab W) (S D : Nat → Prop) (p : Nat) (a : List UInt8) (ao : Option Addr) (x : List UInt8) (n cap : Nat) (w : World) (hW : Below W.heap.size W w) (hS : HK W p a S w) (hV : View w D ao x) (hd : Dis D S) (hn : x.length = n) (hl : n ≤ 10000000) :
    Calls Tryd.prog 16 #[.pointer (some ⟨p, 0, none⟩), .slice ao n cap] w fun e w' => e = .returned (.tuple #[]) ∧ HK W p (a ++ x) S w' ∧ Step S S w w' := by
  refine (writeK_any W T S D p _ ao x n cap w hW hS.2 hS.1 (feed0 a).1 (feed0 a).2 hV hd hn hl).mono ?_
  rintro e w' ⟨he, h1, h2⟩
  rw [← feed_append] at h1
  exact ⟨he, ⟨h1, hS.2⟩, h2⟩
theorem sumH (W : World) (T : Kec.Tab W) (S : Nat → Prop) (p : Nat) (a : List UInt8) (w : World) (hW : Below W.heap.size W w) (hS : HK W p a S w) :
    Calls Tryd.prog 17 #[.pointer (some ⟨p, 0, none⟩)] w fun e w' => e = .returned (sumV a) ∧ Below w.heap.size w w' :=
  sumK_any W T S p _ w hW hS.1 (feed0 a).1 (feed0 a).2

theorem parts_len {w : World} {v : Value} {ls : List (List UInt8)} (h : PartsAt w v ls) : ∃ ao cap, v = .slice ao ls.length cap := by
  rcases h with ⟨rfl, rfl⟩ | ⟨b, cap, rfl, _⟩
  · exact ⟨none, 0, rfl⟩
  · exact ⟨_, cap, rfl⟩
theorem take_flat (ls : List (List UInt8)) (j : Nat) (h : j < ls.length) : (ls.take (j + 1)).flatten = (ls.take j).flatten ++ ls.getD j [] := by
  rw [List.take_succ_eq_append_getElem h, List.flatten_append]
  simp [h]
theorem part_le (ls : List (List UInt8)) (j : Nat) (h : j < ls.length) : (ls.getD j []).length ≤ ls.flatten.length := by
  have e : ls.flatten = (ls.take (j + 1)).flatten ++ (ls.drop (j + 1)).flatten := by rw [← List.flatten_append, List.take_append_drop]
  rw [take_flat ls j h] at e
  have := congrArg List.length e
  simp only [List.length_append] at this
  omega

set_option maxHeartbeats 2000000 in
theorem allH (W : World) (T : Kec.Tab W) (v : Value) (ls : List (List UInt8)) (w : World) (hW : Below W.heap.size W w) (hp : PartsAt w v ls) (hl : ls.flatten.length ≤ 10000000) (hln : ls.length ≤ 1000) :
    Calls Tryd.prog 7 #[v] w fun e w' => e = .returned (sumV ls.flatten) ∧ Below w.heap.size w w' := by
  obtain ⟨n, hn⟩ : ∃ n, n = ls.length := ⟨_, rfl⟩
  obtain ⟨ao, cap, hv⟩ := parts_len hp
  rw [← hn] at hv
  rw [← hn] at hln
  subst hv
  have HN := Lib.hid hn
  have HPA : Hid (∀ j, j < ls.length → ∃ b aj cj, ao = some ⟨b, 0, none⟩ ∧ ∀ wx, Below w.heap.size w wx → wx.cell? ⟨b, j, none⟩ = some (.slice aj (ls.getD j []).length cj) ∧ View wx (fun k => k < w.heap.size) aj (ls.getD j [])) := by
    intro j hj
    rcases hp with ⟨_, h0⟩ | ⟨b, cap', hb, hbw, hc⟩
    · rw [h0] at hj; simp at hj
    simp only [Value.slice.injEq] at hb
    obtain ⟨aj, cj, hcell, hview, _, _, _⟩ := hc j hj
    exact ⟨b, aj, cj, hb.1, fun wx hwx => ⟨(World.cell?_of_block (w := w) (hwx.block b hbw)).trans hcell, vlater hview hwx⟩⟩
  have HB : Hid (∀ wx, Below w.heap.size w wx → Below W.heap.size W wx) := fun wx hwx => hW.trans (hwx.mono hW.size)
  have HL := Lib.hid hl
  have TT := Lib.hid T
  clear hW hp hl hn T
  go_enter Tryd.func7, Tryd.ntmps7
  have H1 := Lib.hid (A8.box (Own.St.start w) 29 (List.replicate 32 0))
  go_wp2_with (fail)
  refine (newH W _ (HB.out _ H1.out.below)).mono ?_
  rintro e wa ⟨p, S, rfl, hS, hst⟩
  obtain ⟨br, hbr⟩ : ∃ b, b = w.heap.size := ⟨_, rfl⟩
  have G0 : Hid (Own.St w.heap.size w wa [AK W p (ls.take 0).flatten, A8 br 29 (List.replicate 32 0)]) := by
    rw [hbr]
    exact H1.out.new (AK W p []) hS hst
  rw [← hbr]
  clear hS hst H1 hbr
  go_wp2_with (fail)
  go_loopw [9] (fun v wr => ∃ j : Nat, j ≤ n ∧ v = .int .i64 (j : Int) ∧ Own.St w.heap.size w wr [AK W p (ls.take j).flatten, A8 br 29 (List.replicate 32 0)]) (fun v _ => n - (intOf v).toNat)
  case atStart => exact ⟨0, Nat.zero_le _, rfl, G0.out⟩
  case round =>
    obtain ⟨j, hj, rfl, G⟩ := hrel
    have G := Lib.hid G
    clear G0
    by_cases hjn : (j : Int) < (n : Int)
    · have hjl : j < ls.length := by rw [← HN.out]; omega
      obtain ⟨x, hx⟩ : ∃ x, x = ls.getD j [] := ⟨_, rfl⟩
      have HX : Hid ((ls.take (j + 1)).flatten = (ls.take j).flatten ++ x) := by
        show (ls.take (j + 1)).flatten = (ls.take j).flatten ++ x
        rw [take_flat ls j hjl, hx]
      have hxl : x.length ≤ 10000000 := by
        rw [hx]
        exact Nat.le_trans (part_le ls j hjl) HL.out
      obtain ⟨m, hm⟩ : ∃ m, x.length = m := ⟨_, rfl⟩
      obtain ⟨b, aj, cj, rfl, hc⟩ := HPA.out j hjl
      obtain ⟨hcell, hview⟩ := hc wr G.out.below
      rw [← hx, hm] at hcell
      rw [← hx] at hview
      have CW : Hid (Calls Tryd.prog 16 #[.pointer (some ⟨p, 0, none⟩), .slice aj m cj] wr fun e w' => e = .returned (.tuple #[]) ∧ Own.St w.heap.size w w' [AK W p (ls.take (j + 1)).flatten, A8 br 29 (List.replicate 32 0)]) := by
        obtain ⟨S, hS, hSB, put⟩ := G.out.at 0 rfl
        refine (writeH W TT.out S (fun k => k < w.heap.size) p _ aj x m cj wr (HB.out _ G.out.below) hS hview (fun k hk h => by have := hSB k h; omega) hm (by rw [← hm]; exact hxl)).mono ?_
        rintro e w' ⟨he, h1, h2⟩
        refine ⟨he, ?_⟩
        have h3 := put S w' (AK W p ((ls.take j).flatten ++ x)) h1 h2
        rw [← HX.out] at h3
        exact h3
      clear hc hx hview
      go_wp2_with (fail)
      refine CW.out.mono ?_
      rintro e w2 ⟨rfl, H2⟩
      have G2 := Lib.hid H2
      clear H2 CW
      go_wp2
      go_roundw
      case rel => exact ⟨j + 1, by omega, by go_num, G2.out⟩
      case measure => simp [intOf]; omega
    · obtain ⟨rs, hrs⟩ : ∃ r, r = sha ls.flatten := ⟨_, rfl⟩
      have LR : Hid (rs.length = 32) := by rw [hrs]; exact sha_len _
      have HRS : Hid (sumV ls.flatten = .agg (rs.map byteV).toArray) := by rw [hrs]; exact rfl
      have HJ : Hid ((ls.take j).flatten = ls.flatten) := by
        show (ls.take j).flatten = ls.flatten
        rw [List.take_of_length_le (by rw [← HN.out]; omega)]
      have CS : Hid (Calls Tryd.prog 17 #[.pointer (some ⟨p, 0, none⟩)] wr fun e w' => e = .returned (.agg (rs.map byteV).toArray) ∧ Below wr.heap.size wr w') := by
        obtain ⟨S, hS, _⟩ := G.out.at 0 rfl
        have h := sumH W TT.out S p _ wr (HB.out _ G.out.below) hS
        rw [HJ.out, HRS.out] at h
        exact h
      have IR := Lib.hid (info_sum rs LR.out)
      have OR := Lib.hid (one8 rs)
      clear hrs
      go_wp2_with (fail)
      refine CS.out.mono ?_
      rintro e wd ⟨rfl, hd⟩
      have GD := Lib.hid (G.out.later hd)
      clear hd CS G
      have LAST := Lib.hid (A8.setAll GD.out 1 rfl rs (by rw [LR.out]; rfl))
      have THERE := Lib.hid (A8.there GD.out 1 rfl rs (by rw [LR.out]; rfl))
      go_wp2_with (refine wpList_store_mid rfl 29 (.tmp 2) (.tmp 18) rfl br 0 (rs.map byteV).toArray rfl rfl THERE.out IR.out OR.out ?_)
      have END := Lib.hid (A8.row LAST.out 1 rfl)
      refine bodyPost_ret (results_cell_row rfl _ _ br 29 _ (0, 0) _ rfl END.out Tryd.underlying29 rfl IR.out) rfl ?_
      refine ⟨?_, LAST.out.below⟩
      rw [HRS.out]
end Spo
end Go.Proofs.YtllmogicmimjlaaDoor

namespace Go.Proofs.YtllmogicmimjlaaDoor
open Go.RowKit Go.Own
namespace Spo
open Go.KecM Go.SpoM Byt

theorem sumNil (W : World) (T : Kec.Tab W) (w : World) (hW : Below W.heap.size W w) : Calls Tryd.prog 17 #[.pointer none] w fun e w' => e = .returned (sumV []) ∧ Below w.heap.size w w' := by
  obtain ⟨rs, hrs⟩ : ∃ r, r = sha [] := ⟨_, rfl⟩
  have LR : Hid (rs.length = 32) := by rw [hrs]; exact sha_len _
  have HRS : Hid (sumV [] = .agg (rs.map byteV).toArray) := by rw [hrs]; exact rfl
  have CS : Hid (∀ wx, Below w.heap.size w wx → Calls Tryd.prog 7 #[.slice none 0 0] wx fun e w' => e = .returned (.agg (rs.map byteV).toArray) ∧ Below wx.heap.size wx w') := by
    intro wx hwx
    have h := allH W T (.slice none 0 0) [] wx (hW.trans (hwx.mono hW.size)) (.inl ⟨rfl, rfl⟩) (by simp) (by simp)
    rw [show ([] : List (List UInt8)).flatten = [] from rfl, HRS.out] at h
    exact h
  have IR := Lib.hid (info_sum rs LR.out)
  have OR := Lib.hid (one8 rs)
  clear hrs hW T
  rw [HRS.out]
  go_enter Tryd.func17, Tryd.ntmps17
  have H1 := Lib.hid (A8.box (Own.St.start w) 29 (List.replicate 32 0))
  go_wp2_with (fail)
  refine (CS.out _ H1.out.below).mono ?_
  rintro e wd ⟨rfl, hd⟩
  have GD := Lib.hid (H1.out.later hd)
  clear hd CS H1
  have LAST := Lib.hid (A8.setAll GD.out 0 rfl rs (by rw [LR.out]; rfl))
  have THERE := Lib.hid (A8.there GD.out 0 rfl rs (by rw [LR.out]; rfl))
  go_wp2_with (refine wpList_store_mid rfl 29 (.tmp 2) (.tmp 6) rfl w.heap.size 0 (rs.map byteV).toArray rfl rfl THERE.out IR.out OR.out ?_)
  have END := Lib.hid (A8.row LAST.out 0 rfl)
  refine bodyPost_ret (results_cell_row rfl _ _ w.heap.size 29 _ (0, 0) _ rfl END.out Tryd.underlying29 rfl IR.out) rfl ?_
  exact ⟨rfl, LAST.out.below⟩

/-- WHAT THE LANDED PACKAGE KEEPS, where keccak's table is -/
def kept (W : World) (T : Kec.Tab W) : Kept W where
  H p a S w := HK W p a S w
  keep h g hd := HK.keep h g hd
  lt h := HK.lt h
  new w h := newH W w h
  write S D p a ao x cap w h hS hV hd h1 h2 h3 hl := (writeH W T S D p a ao x x.length cap w h hS hV hd rfl (by omega)).mono fun e w' ⟨he, h4, h5⟩ => ⟨he, S, h4, h5⟩
  sum S p a w h hS hl := sumH W T S p a w h hS
  nilWrite ao n cap w := writeNil_any (.slice ao n cap) w
  nilSum w h := sumNil W T w h
  all v ls w h hp hl hn := allH W T v ls w h hp hl hn
end Spo
end Go.Proofs.YtllmogicmimjlaaDoor

end
section
namespace Go.Proofs.YtllmogicmimjlaaDoor
open Go.RowKit Go.Own
namespace Kec
open Go.KecM

/-- the row's condition gives the table -/
def turnZs : List Int := [0, 1, 62, 28, 27, 36, 44, 6, 55, 20, 3, 10, 43, 25, 39, 41, 45, 15, 21, 8, 18, 2, 61, 56, 14]
theorem turnZs_eq : ∀ i : Fin 25, turnZs.getD i.val 0 = ((KecM.turns.getD i.val 0 : Nat) : Int) := by decide
theorem gTurns : Tryd.prog.globalNamed "pumice/keccak.turns" = some 0 := by kernel_rfl
theorem gTurnsT : (Tryd.prog.globals[0]?).map (·.type) = some 118 := by kernel_rfl
theorem tab_of_laid {W : World} (h : laidMetH Tryd.prog [("pumice/keccak.turns", Rows.laid_pumice_keccak_turns)] W) : Tab W := by
  rw [MakeChecks.laidMetH_plain _ _ _ (by kernel_rfl)] at h
  have h' : laidMet Tryd.prog (("pumice/keccak.turns", Lib.tabData .i64 turnZs) :: []) W := h
  have T := Lib.tabIs_of_head gTurns gTurnsT Tryd.underlying118 Tryd.underlying3 (by kernel_rfl) (by kernel_rfl) h'
  intro i hi
  rw [T.cell gTurns i hi, turnZs_eq ⟨i, hi⟩]

end Kec
end Go.Proofs.YtllmogicmimjlaaDoor

end
section
namespace Go.Proofs.YtllmogicmimjlaaDoor
open Go.RowKit Go.Own
namespace Spo
open Go.KecM Go.SpoM Byt

theorem neqSum {o : Oper} {x y : Tmp} (ho : o.op = .binOp .neq 29 (.tmp x) (.tmp y) 29) {s t : List UInt8} (hs : s.length = 32) (ht : t.length = 32) {v : Bool} (hv : decide (s = t) = v) (ρ : Operand → Value) (w : World)
    (h0 : ρ (.tmp x) = .agg (s.map byteV).toArray) (h1 : ρ (.tmp y) = .agg (t.map byteV).toArray) : (execOp ρ o).run Tryd.prog w = .ok (.value (.bool (!v))) w := by
  have e0 : ∀ l : List UInt8, l.map byteV = (l.map (fun c => (c.toNat : Int))).map (Value.int .u8) := fun l => by simp [byteV]
  have h := run_equalIn_ints (P := Tryd.prog) 9998 29 5 .u8 (s.map (fun c => (c.toNat : Int))) (t.map (fun c => (c.toNat : Int))) (by simp [hs, ht]) (by rw [List.length_map, hs]; exact Tryd.underlying29) Tryd.underlying5 (fun w => by kernel_rfl) (fun w => by kernel_rfl) w
  have hd : decide (s.map (fun c => (c.toNat : Int)) = t.map (fun c => (c.toNat : Int))) = decide (s = t) := by
    apply decide_eq_decide.2
    constructor
    · intro h
      exact (List.map_inj_right (fun x y h => UInt8.toNat_inj.1 (by omega))).1 h
    · rintro rfl; rfl
  rw [hd, hv, ← e0, ← e0] at h
  have h' : (Op.equalIn 10000 29 (.agg (s.map byteV).toArray) (.agg (t.map byteV).toArray)).run Tryd.prog w = .ok v w := h
  unfold execOp
  simp only [ho, h0, h1]
  generalize (s.map byteV).toArray = A at h' ⊢
  generalize (t.map byteV).toArray = B at h' ⊢
  simp [go_sem, h']
end Spo
end Go.Proofs.YtllmogicmimjlaaDoor

end
section
namespace Go.LogM
theorem pages_count {n : RecM.Nte} (hr : RecM.right n = true) : RecM.pagesN n = (notePages n).length := by
  unfold RecM.pagesN notePages
  rw [if_pos hr, PagM.pages_len]
  have : 0 < (RecM.laid n).length := by rcases h : RecM.laid n with _ | ⟨x, l⟩; exact absurd h RecM.laid_ne; exact Nat.succ_pos _
  omega
theorem set_split {α : Type} : ∀ (l : List α) (k : Nat) (x : α), k < l.length → l.set k x = l.take k ++ x :: l.drop (k + 1)
  | [], k, x, h => absurd h (Nat.not_lt_zero k)
  | a :: l, 0, x, _ => rfl
  | a :: l, k + 1, x, h => by
    rw [List.set_cons_succ, set_split l k x (by simpa using h)]
    rfl
/-- no page of a note may be missing -/
theorem gone_page (n : RecM.Nte) (k : Nat) (hk : k < (notePages n).length) : PagM.join ((notePages n).set k FlaM.blank) = ((0, [], 0), 90) := by
  rw [set_split _ _ _ hk]
  exact joinF_more FlaM.blank blank_page _ _ 0 0 [] (PagM.join_begin 2 _ (by decide) k hk)
end Go.LogM
namespace Go.Proofs.YtllmogicmimjlaaDoor
open Go.RowKit Go.Own
namespace Top
open Go.LogM Byt
open Spo (partsTy build1 sumV)
open Go.SpoM (sha)
def RetYes (w : World) (e : Ending) (w' : World) : Prop := e = .returned (.bool true) ∧ Below w.heap.size w w'
theorem loadSumAt {o : Oper} {x : Tmp} (ho : o.op = .load 29 (.tmp x)) {w : World} {b k : Nat} {s : List UInt8} (hr : w.rangeAt b k (s.map byteV)) (hl : s.length = 32) (ρ : Operand → Value) (h0 : ρ (.tmp x) = .pointer (some ⟨b, k, none⟩)) :
    (execOp ρ o).run Tryd.prog w = .ok (.value (.agg (s.map byteV).toArray)) w := by
  have := run_loadAt_mid (P := Tryd.prog) w b k 29 (s.map byteV) _ hr Tryd.underlying29 rfl (by have h := info_sum s hl; simpa using h)
  unfold execOp
  simp only [ho, h0, Sem.run_bind, this, Result.andThen_ok, Sem.run_pure]
theorem built_key0 (f : Nat → Value) : Tryd.prog.built 32 [(0, .agg ((List.range 32).map f).toArray)] = some ((List.range 32).map f ++ [Value.int .u32 0]).toArray := by kernel_rfl
theorem built_key (s : List UInt8) (h : s.length = 32) : Tryd.prog.built 32 [(0, .agg (s.map byteV).toArray)] = some (Rec.keyC s 0).toArray := by
  have hrm : (List.range 32).map (fun i => (s.map byteV).getD i undef) = s.map byteV := by
    apply List.ext_getElem
    · simp [h]
    · intro i h1 h2
      simp [List.getD]
      simp at h2
      simp [h2]
  have h := built_key0 (fun i => (s.map byteV).getD i undef)
  rw [hrm] at h
  exact h
theorem built_nt0 (x y : Int) (ao : Option Addr) (n c : Nat) (f : Nat → Value) : Tryd.prog.built 34 [(0, .int .u8 1), (1, .int .u32 x), (2, .int .u64 y), (3, .agg ((List.range 33).map f).toArray), (4, .slice ao n c)] = some (.int .u8 1 :: .int .u32 x :: .int .u64 y :: ((List.range 33).map f ++ [.slice ao n c])).toArray := by kernel_rfl
theorem built_nt (x y : Int) (ao : Option Addr) (n c : Nat) (k : List Value) (h : k.length = 33) : Tryd.prog.built 34 [(0, .int .u8 1), (1, .int .u32 x), (2, .int .u64 y), (3, .agg k.toArray), (4, .slice ao n c)] = some (.int .u8 1 :: .int .u32 x :: .int .u64 y :: (k ++ [.slice ao n c])).toArray := by
  have hrm : (List.range 33).map (fun i => k.getD i undef) = k := by
    apply List.ext_getElem
    · simp [h]
    · intro i h1 h2
      simp [List.getD, h2]
  have h := built_nt0 x y ao n c (fun i => k.getD i undef)
  rw [hrm] at h
  exact h
set_option maxRecDepth 10000 in
set_option maxHeartbeats 32000000 in
theorem walk_pages {w : World} (T : Kec.Tab w) (ao : Option Addr) (n cap : Nat) (f : List UInt8) (hg : Given w ao n cap f) (c : UInt8) (ad sq gn : Nat) (had : ad < 4294967296) (hsq : sq < 18446744073709551616) (hgn : gn ≤ 255) :
    Calls Tryd.prog 3 #[.slice ao n cap, .int .u8 (c.toNat : Int), .int .u32 (ad : Int), .int .u64 (sq : Int), .int .u8 (gn : Int)] w (RetYes w) := by
  obtain ⟨b, hb⟩ : ∃ b, b = blk f c := ⟨_, rfl⟩
  have hbl : b.length = 256 := by rw [hb]; exact blk_len f c
  obtain ⟨S, hS⟩ : ∃ S, S = sha b := ⟨_, rfl⟩
  have hSl : S.length = 32 := by rw [hS]; exact Go.SpoM.sha_len b
  obtain ⟨P, hP⟩ : ∃ P, P = LzM.pack b := ⟨_, rfl⟩
  obtain ⟨m, hm⟩ : ∃ m, m = P.length := ⟨_, rfl⟩
  have hm257 : m ≤ 257 := by rw [hm, hP]; have := LzM.pack_len b; omega
  obtain ⟨nt, hnt⟩ : ∃ nt : RecM.Nte, nt = ⟨1, ad, sq, S, 0, P⟩ := ⟨_, rfl⟩
  have hfit : RecM.Fits nt := by rw [hnt]; exact ⟨had, hsq, hSl, (by decide : 0 < 4294967296)⟩
  have hrt : RecM.right nt = true := by rw [hnt]; unfold RecM.right; simp only [if_true, Bool.and_true, decide_eq_true_eq]; omega
  obtain ⟨D, hD⟩ : ∃ D, D = RecM.laid nt := ⟨_, rfl⟩
  have hDs := laid_small hfit hrt
  obtain ⟨dl, hdl⟩ : ∃ d, d = D.length := ⟨_, rfl⟩
  rw [← hD, ← hdl] at hDs
  obtain ⟨L, hL⟩ : ∃ L, L = notePages nt := ⟨_, rfl⟩
  obtain ⟨N, hN⟩ : ∃ N, N = L.length := ⟨_, rfl⟩
  have hN3 : N ≤ 3 := by rw [hN, hL]; exact notePages_few hfit hrt
  have hN1 : 1 ≤ N := by rw [hN, hL]; exact notePages_pos nt
  have C1 := Lib.hid (noted_any w)
  have C2 : Hid (∀ wx, Own.St w.heap.size w wx [] → Calls Tryd.prog 5 #[.slice ao n cap, .int .u8 (c.toNat : Int)] wx fun e w' => ∃ g, e = .returned (.slice (some ⟨g, 0, none⟩) 256 256) ∧ Own.St w.heap.size w w' [AB (some ⟨g, 0, none⟩) 256 256 b]) := fun wx h => by
    rw [hb]
    exact block_any h ao n cap f c (View.below hg.view h.below) hg.size (fun e => (given_nil hg e).1)
  have C3 : Hid (∀ wx g, Given wx (some ⟨g, 0, none⟩) 256 256 b → Calls Tryd.prog 6 #[.slice (some ⟨g, 0, none⟩) 256 256] wx fun e w' => ∃ a c, e = .returned (.slice a m c) ∧ Given w' a m c P ∧ Below wx.heap.size wx w') := fun wx g h => Lz.pack_st (Lz.kept wx) (Below.refl _ _) h (by decide) hP.symm hm.symm
  have SUMV : sumV b = .agg (S.map byteV).toArray := by rw [hS]
  have CS0 : ∀ (v : Value) wx, Below w.heap.size w wx → Spo.PartsAt wx v [b] → Calls Tryd.prog 7 #[v] wx fun e w' => e = .returned (.agg (S.map byteV).toArray) ∧ Below wx.heap.size wx w' := fun v wx hwx hp => by
    have h := (Spo.kept w T).all v [b] wx hwx hp (by simp [hbl]) (by simp)
    rw [show [b].flatten = b by simp, SUMV] at h
    exact h
  have C4 : Hid (∀ wx g, Below w.heap.size w wx → Given wx (some ⟨g, 0, none⟩) 256 256 b → Calls Tryd.prog 7 #[.slice (some ⟨wx.heap.size, 0, none⟩) 1 1] (wx.alloc (.cells #[.slice (some ⟨g, 0, none⟩) 256 256] 22)) fun e w' => e = .returned (.agg (S.map byteV).toArray) ∧ Below wx.heap.size wx w') := fun wx g hwx h => by
    have hb1 := ((Own.St.start wx).alloc (.cells #[.slice (some ⟨g, 0, none⟩) 256 256] 22)).below
    exact (CS0 _ _ (hwx.trans (hb1.mono hwx.size)) (Spo.parts_one h.view h.size h.room.1 h.room.2 h.nil _)).mono fun e w' h2 => ⟨h2.1, hb1.trans (h2.2.mono hb1.size)⟩
  have CS : Hid (∀ (v : Value) wx, Below w.heap.size w wx → (partsTy [b]).holds v wx → Calls Tryd.prog 7 #[v] wx fun e w' => e = .returned (.agg (S.map byteV).toArray) ∧ Below wx.heap.size wx w') := fun v wx hwx hp => CS0 v wx hwx hp
  have BK : Hid (Tryd.prog.built 32 [(0, .agg (S.map byteV).toArray)] = some (Rec.keyC S 0).toArray) := built_key S hSl
  have BN : Hid (∀ (a : Option Addr) (k : Nat), Tryd.prog.built 34 [(0, .int .u8 1), (1, .int .u32 (ad : Int)), (2, .int .u64 (sq : Int)), (3, .agg (Rec.keyC S 0).toArray), (4, .slice a m k)] = some (Rec.ntC nt (.slice a m k)).toArray) := fun a k => by
    rw [hnt]
    exact built_nt _ _ a m k _ (Rec.keyC_len S 0 hSl)
  have C5 : Hid (∀ wx a k, Given wx a m k P → Calls Tryd.prog 8 #[.agg (Rec.ntC nt (.slice a m k)).toArray] wx fun e w' => ∃ a2 c2, e = .returned (.tuple #[.slice a2 dl c2, .int .i64 0]) ∧ Given w' a2 dl c2 D ∧ Below wx.heap.size wx w') := fun wx a k h => by
    have h5 := Rec.lLay_any nt hfit a m k wx (by rw [hnt]; exact h) (by omega)
    rw [Rec.lay_of hrt, ← hD] at h5
    unfold Rec.LayDone at h5
    simp only [← hdl] at h5
    exact h5
  have C6 : Hid (∀ wx a k, Given wx a dl k D → Calls Tryd.prog 9 #[.int .u8 2, .slice a dl k] wx fun e w' => ∃ al cl, e = .returned (.tuple #[.slice al N cl, .int .i64 0]) ∧ Own.St wx.heap.size wx w' [AGrid 22 59 byteV (.slice al N cl) L]) := fun wx a k h => by
    rw [hN, hL]
    unfold notePages
    rw [← hD]
    exact Pag.splitP_own 2 a dl k D wx h (by decide) (by omega)
  have C7 : Hid (∀ wx a k, Given wx a m k P → Calls Tryd.prog 10 #[.agg (Rec.ntC nt (.slice a m k)).toArray] wx fun e w' => e = .returned (.int .i64 (N : Int)) ∧ Below wx.heap.size wx w') := fun wx a k h => by
    have h7 := (Rec.kept wx).pages nt a m k hfit (Below.refl _ _) (by rw [hnt]; exact h) (by omega)
    rw [pages_count hrt, ← hL, ← hN] at h7
    exact h7
  have h128 : ∀ p ∈ L, p.length = 128 := fun p hp => (notePages_page nt p (by rw [← hL]; exact hp)).2
  have hjn : PagM.join L = ((2, D, N), 0) := by
    have h := PagM.join_split 2 D (by decide) (by omega) []
    rw [List.append_nil] at h
    rw [hN, hL]
    unfold notePages
    rw [← hD]
    exact h
  have C8 : Hid (∀ wx al cl, GivenL wx al N cl L → Calls Tryd.prog 11 #[.slice al N cl] wx fun e w' => ∃ a k, e = .returned (.tuple #[.int .u8 2, .slice a dl k, .int .i64 (N : Int), .int .i64 0]) ∧ Given w' a dl k D ∧ Below wx.heap.size wx w') := fun wx al cl h => by
    have h8 := Pag.joinP_any al N cl L wx h (by omega) (fun p hp => by rw [h128 p hp]; decide)
    rw [hjn] at h8
    unfold Pag.JoinDone at h8
    simp only [← hdl] at h8
    exact h8
  have htk : RecM.take D = (nt, 0) := by rw [hD]; exact RecM.take_laid hfit hrt
  have hntd : nt.data = P := by rw [hnt]
  have C9 : Hid (∀ wx a k, Given wx a dl k D → Calls Tryd.prog 12 #[.slice a dl k] wx fun e w' => ∃ (cs : List Value) (a9 : Option Addr) (k9 : Nat), cs = Rec.ntC nt (.slice a9 m k9) ∧ e = .returned (.tuple #[.agg cs.toArray, .int .i64 0]) ∧ Given w' a9 m k9 P ∧ Below wx.heap.size wx w') := fun wx a k h => by
    have h9 := Rec.lTake_any a dl k D wx h (by omega)
    rw [htk] at h9
    unfold Rec.TakeNew at h9
    simp only [hntd, ← hm] at h9
    exact h9.mono fun e w' ⟨a9, k9, q1, q2, _, q4⟩ => ⟨_, a9, k9, rfl, q1, q2, q4⟩
  have C10 : Hid (∀ wx a k, Given wx a m k P → Calls Tryd.prog 13 #[.slice a m k, .int .i64 256] wx fun e w' => ∃ az cz, e = .returned (.tuple #[.slice az 256 cz, .int .i64 0]) ∧ Given w' az 256 cz b ∧ Below wx.heap.size wx w') := fun wx a k h =>
    Lz.unpack_st (Lz.kept wx) (Below.refl _ _) h (by omega) (by decide) (by decide) (by rw [hP, show (256 : Int).toNat = 256 from rfl, LzM.unpack_pack, if_neg (by omega)]) hbl
  obtain ⟨k, hk⟩ : ∃ k, k = gn % N := ⟨_, rfl⟩
  have hkN : k < N := by rw [hk]; exact Nat.mod_lt _ (by omega)
  have hgone : PagM.join (L.set k FlaM.blank) = ((0, [], 0), 90) := by rw [hL]; exact gone_page nt k (by rw [← hL, ← hN]; exact hkN)
  have C11 : Hid (∀ wx al cl, GivenL wx al N cl (L.set k FlaM.blank) → Calls Tryd.prog 11 #[.slice al N cl] wx fun e w' => ∃ a q, e = .returned (.tuple #[.int .u8 0, .slice a 0 q, .int .i64 0, .int .i64 90]) ∧ Below wx.heap.size wx w') := fun wx al cl h => by
    have h8 := Pag.joinP_any al N cl (L.set k FlaM.blank) wx h (by omega) (fun p hp => by
      rcases List.mem_or_eq_of_mem_set hp with h | rfl
      · rw [h128 p h]; decide
      · rw [FlaM.blank_len]; decide)
    rw [hgone] at h8
    exact h8.mono fun e w' ⟨a, q, q1, _, q3⟩ => ⟨a, q, q1, q3⟩
  have HNS := Lib.hid hSl
  have HFS := Lib.hid hfit.sum
  have HNT := Lib.hid hnt
  have HBL := Lib.hid hbl
  have H128 := Lib.hid h128
  have HNL := Lib.hid hN
  have HNTL : Hid (∀ v, (Rec.ntC nt v).length = 37) := fun v => Rec.ntC_len nt v hfit.sum
  clear hb hS hP hm hnt hfit hrt hD hdl hL hjn htk hgone SUMV CS0 hg had hsq hntd h128 hSl hbl hN hDs
  go_enter Tryd.func3, Tryd.ntmps3
  go_wp2_with (fail)
  refine C1.out.mono ?_
  clear C1
  rintro e w1 ⟨rfl, h1⟩
  have H1 := Lib.hid ((Own.St.start w).later h1)
  clear h1
  go_wp2_with (fail)
  refine (C2.out _ H1.out).mono ?_
  clear C2 H1
  rintro e w2 ⟨g, rfl, h2⟩
  have H2 := Lib.hid h2
  have G2 := Lib.hid (given_own h2 0 rfl)
  clear h2
  go_wp2_with (fail)
  refine (C3.out _ _ G2.out).mono ?_
  clear C3
  rintro e w3 ⟨a3, c3, rfl, hg3, hb3⟩
  have H3 := Lib.hid (H2.out.later hb3)
  have G3 := Lib.hid (G2.out.later hb3)
  have P3 := Lib.hid hg3
  clear hg3 hb3 H2 G2
  go_wp2_with (fail)
  refine (C4.out _ _ H3.out.below G3.out).mono ?_
  clear C4
  rintro e w4 ⟨rfl, hb4⟩
  have HB4 := Lib.hid (H3.out.later hb4).below
  have G4 := Lib.hid (G3.out.later hb4)
  have P4 := Lib.hid (P3.out.later hb4)
  have H40 := Lib.hid (Own.St.start w4)
  obtain ⟨cs, hcs⟩ : ∃ cs, cs = Rec.ntC nt (.slice a3 m c3) := ⟨_, rfl⟩
  have CSL : Hid (cs.length = 37) := by rw [hcs]; exact HNTL.out _
  have CS1 : Hid (∀ v ∈ cs, v.oneCell' = true) := by rw [hcs]; exact Rec.ntC_one rfl
  have BN1 := Lib.hid (BN.out a3 c3)
  rw [← hcs] at BN1
  have C5' : Hid (∀ wx, Given wx a3 m c3 P → Calls Tryd.prog 8 #[.agg cs.toArray] wx fun e w' => ∃ a2 c2, e = .returned (.tuple #[.slice a2 dl c2, .int .i64 0]) ∧ Given w' a2 dl c2 D ∧ Below wx.heap.size wx w') := fun wx h => by rw [hcs]; exact C5.out wx a3 c3 h
  have C7' : Hid (∀ wx, Given wx a3 m c3 P → Calls Tryd.prog 10 #[.agg cs.toArray] wx fun e w' => e = .returned (.int .i64 (N : Int)) ∧ Below wx.heap.size wx w') := fun wx h => by rw [hcs]; exact C7.out wx a3 c3 h
  clear hb4 H3 G3 P3 hcs BN C5 C7
  go_wp2_with (first
    | (refine Own.wpList_built rfl 32 #[(0, .tmp 44)] rfl (Rec.keyC S 0).toArray ?_ ?_; · (simp only [List.map_toArray, List.map_cons, List.map_nil, List.toList_toArray]; exact BK.out))
    | (refine Own.wpList_built rfl 34 #[(0, .const (.int .u8 1)), (1, .tmp 40), (2, .tmp 41), (3, .tmp 45), (4, .tmp 46)] rfl cs.toArray ?_ ?_; · (simp only [List.map_toArray, List.map_cons, List.map_nil, List.toList_toArray]; exact BN1.out))
    | (refine wpList_box2 Lga.boxy_note rfl rfl rfl (.tmp 14) (.tmp 47) rfl rfl cs (fun _ => rfl) (fun _ => rfl) CSL.out CS1.out H40.out ?_; intro b14 w5 h; have H5 := Lib.hid h; clear h)
    | (refine wpList_val rfl (Rec.load_note cs CSL.out rfl _ (b := b14) (k := 0) (H5.out.boxRange 0 rfl) rfl) ?_))
  have HB5 : Hid (Below w.heap.size w w5) := HB4.out.trans (H5.out.below.mono HB4.out.size)
  have G5 := Lib.hid (G4.out.later H5.out.below)
  have P5 := Lib.hid (P4.out.later H5.out.below)
  clear HB4 G4 P4 H40 BN1 BK
  refine (C5'.out _ P5.out).mono ?_
  clear C5'
  rintro e w6 ⟨a6, c6, rfl, hg6, hb6⟩
  have HB6 : Hid (Below w.heap.size w w6) := HB5.out.trans (hb6.mono HB5.out.size)
  have G6 := Lib.hid (G5.out.later hb6)
  have P6 := Lib.hid (P5.out.later hb6)
  have D6 := Lib.hid hg6
  have H6 := Lib.hid (H5.out.later hb6)
  clear hg6 hb6 HB5 G5 P5 H5
  go_wp2_with (fail)
  refine (C6.out _ _ _ D6.out).mono ?_
  clear C6 D6
  rintro e w7 ⟨al, cl, rfl, h7⟩
  have L7 := Lib.hid h7
  have HB7 : Hid (Below w.heap.size w w7) := HB6.out.trans (h7.below.mono HB6.out.size)
  have G7 := Lib.hid (G6.out.later h7.below)
  have P7 := Lib.hid (P6.out.later h7.below)
  have H7 := Lib.hid (H6.out.later h7.below)
  clear h7 G6 P6 H6 HB7
  have nn1 : ((N : Int) != (N : Int)) = false := by simp
  go_wp2_with (refine wpList_val rfl (Rec.load_note cs CSL.out rfl _ (b := b14) (k := 0) (H7.out.boxRange 0 rfl) rfl) ?_)
  refine (C7'.out _ P7.out).mono ?_
  clear C7' H7 CSL CS1
  rintro e w8 ⟨rfl, hb8⟩
  have L8 := Lib.hid (L7.out.later hb8)
  have G8 := Lib.hid (G7.out.later hb8)
  obtain ⟨a', c', hv8, hgl8⟩ := givenL_ownE L8.out
  simp only [Value.slice.injEq] at hv8
  obtain ⟨rfl, hlN, rfl⟩ := hv8
  have GL8 : Hid (GivenL w8 al N cl L) := by show GivenL _ _ _ _ _; rw [hlN]; exact hgl8
  clear hb8 L7 G7 P7 hgl8 hlN
  go_wp2_with (fail)
  refine (C8.out _ _ _ GL8.out).mono ?_
  clear C8 GL8
  rintro e w9 ⟨a9, c9, rfl, hg9, hb9⟩
  have L9 := Lib.hid (L8.out.later hb9)
  have G9 := Lib.hid (G8.out.later hb9)
  have D9 := Lib.hid hg9
  clear hg9 hb9 L8 G8
  go_wp2_with (fail)
  refine (C9.out _ _ _ D9.out).mono ?_
  clear C9 D9
  rintro e w10 ⟨cs, a10, k10, hcs, rfl, hg10, hb10⟩
  have L10 := Lib.hid (L9.out.later hb10)
  have G10 := Lib.hid (G9.out.later hb10)
  have P10 := Lib.hid hg10
  have H100 := Lib.hid (Own.St.start w10)
  have CSL : Hid (cs.length = 37) := by rw [hcs]; exact HNTL.out _
  have CS1 : Hid (∀ v ∈ cs, v.oneCell' = true) := by rw [hcs]; exact Rec.ntC_one rfl
  have K36 : Hid (cs[36]? = some (.slice a10 m k10)) := by rw [hcs]; exact Rec.ntC_data nt _ HFS.out
  have K1 : Hid (cs[1]? = some (.int .u32 (ad : Int))) := by rw [hcs, HNT.out]; exact rfl
  have K2 : Hid (cs[2]? = some (.int .u64 (sq : Int))) := by rw [hcs, HNT.out]; exact rfl
  have K3 : Hid (∀ j v, (S.map byteV)[j]? = some v → cs[3 + j]? = some v) := fun j v hv => by
    rw [hcs]
    refine Rec.ntC_key nt _ j v ?_
    unfold Rec.keyC
    rw [List.getElem?_append_left (by have h := (List.getElem?_eq_some_iff.1 hv).1; rw [HNT.out]; exact h), HNT.out]
    exact hv
  clear hg10 hb10 hcs L9 G9
  go_wp2_with (refine wpList_box2 Lga.boxy_note rfl rfl rfl (.tmp 23) (.tmp 91) rfl rfl cs (fun _ => rfl) (fun _ => rfl) CSL.out CS1.out H100.out ?_; intro b23 w11 h; have H11 := Lib.hid h; have d36 := (h.cellV 0 rfl 36 K36.out).1; clear h)
  have L11 := Lib.hid (L10.out.later H11.out.below)
  have G11 := Lib.hid (G10.out.later H11.out.below)
  have P11 := Lib.hid (P10.out.later H11.out.below)
  refine (C10.out _ _ _ P11.out).mono ?_
  clear C10 P11 P10 L10 G10 H100 d36 K36
  rintro e w12 ⟨az, cz, rfl, hg12, hb12⟩
  have L12 := Lib.hid (L11.out.later hb12)
  have HBL12 : Hid (Below w.heap.size w w12) := HB6.out.trans (L12.out.below.mono HB6.out.size)
  have G12 := Lib.hid (G11.out.later hb12)
  have Z12 := Lib.hid hg12
  have H12 := Lib.hid (H11.out.later hb12)
  have SL := HNS
  have BL := HBL
  have HCZ : Hid (256 ≤ cz ∧ cz ≤ maxLen ∧ (az = none → cz = 0)) := ⟨hg12.room.1, hg12.room.2, hg12.nil⟩
  have VZ : Hid (∀ wx, Below w12.heap.size w12 wx → View wx (fun k => k < wx.heap.size) az b) := fun wx hwx => (Z12.out.later hwx).view
  have CZ : Hid (∀ wx, Below w12.heap.size w12 wx → (convert 22 9 (.slice az 256 cz)).run Tryd.prog wx = .ok (strV b) wx) := fun wx hwx => tyG_str (l := b) ⟨az, cz, by rw [BL.out], by rw [BL.out]; exact Z12.out.later hwx⟩
  have CB : Hid (∀ wx, Below w12.heap.size w12 wx → (convert 22 9 (.slice (some ⟨g, 0, none⟩) 256 256)).run Tryd.prog wx = .ok (strV b) wx) := fun wx hwx => tyG_str (l := b) ⟨some ⟨g, 0, none⟩, 256, by rw [BL.out], by rw [BL.out]; exact G12.out.later hwx⟩
  have D1 : Hid (∀ wx, Below w12.heap.size w12 wx → wx.cell? ⟨b23, 1, none⟩ = some (.int .u32 (ad : Int))) := fun wx hwx => ((H12.out.later hwx).cellV 0 rfl 1 K1.out).1
  have D2 : Hid (∀ wx, Below w12.heap.size w12 wx → wx.cell? ⟨b23, 2, none⟩ = some (.int .u64 (sq : Int))) := fun wx hwx => ((H12.out.later hwx).cellV 0 rfl 2 K2.out).1
  have RS : Hid (∀ wx, Below w12.heap.size w12 wx → wx.rangeAt b23 3 (S.map byteV)) := fun wx hwx j v hv => ((H12.out.later hwx).cellV 0 rfl (3 + j) (K3.out j v hv)).1
  have CS2 : Hid (∀ (v : Value) wx, Below w12.heap.size w12 wx → (partsTy [b]).holds v wx → Calls Tryd.prog 7 #[v] wx fun e w' => e = .returned (.agg (S.map byteV).toArray) ∧ Below wx.heap.size wx w') := fun v wx hwx hp => CS.out v wx (HBL12.out.trans (hwx.mono HBL12.out.size)) hp
  clear hg12 hb12 L11 G11 H11 K1 K2 K3 CS
  go_wp2_with (fail)
  refine wp_lax_list (by kernel_rfl) (by kernel_rfl) (by kernel_rfl) ?_
  refine wpL_move (.int .i64 0) rfl (by kernel_rfl) (by kernel_rfl) (by kernel_rfl) (by kernel_rfl) ?_
  refine wpL_run1 (x := .tmp 99) (.int .i64 0) (.bool false) (by kernel_rfl) (by kernel_rfl) (by kernel_rfl) (by kernel_rfl) (by kernel_rfl) (fun wx ρ hwx h0 hc => by simp [go_sem, h0, hc]) ?_
  refine wpL_move (.bool false) rfl (by kernel_rfl) (by kernel_rfl) (by kernel_rfl) (by kernel_rfl) ?_
  refine wpL_move (.int .i64 0) rfl (by kernel_rfl) (by kernel_rfl) (by kernel_rfl) (by kernel_rfl) ?_
  refine wpL_run1 (x := .tmp 102) (.int .i64 0) (.bool false) (by kernel_rfl) (by kernel_rfl) (by kernel_rfl) (by kernel_rfl) (by kernel_rfl) (fun wx ρ hwx h0 hc => by simp [go_sem, h0, hc]) ?_
  refine wpL_run2 (x := .tmp 101) (y := .tmp 103) (.bool false) (.bool false) (.bool false) (by kernel_rfl) (by kernel_rfl) (by kernel_rfl) (by kernel_rfl) (by kernel_rfl) (by kernel_rfl) (fun wx ρ hwx h0 h1 hc => by simp [go_sem, h0, h1]) ?_
  refine wpL_move (.bool false) rfl (by kernel_rfl) (by kernel_rfl) (by kernel_rfl) (by kernel_rfl) ?_
  refine wpL_move (.int .i64 0) rfl (by kernel_rfl) (by kernel_rfl) (by kernel_rfl) (by kernel_rfl) ?_
  refine wpL_run1 (x := .tmp 106) (.int .i64 0) (.bool false) (by kernel_rfl) (by kernel_rfl) (by kernel_rfl) (by kernel_rfl) (by kernel_rfl) (fun wx ρ hwx h0 hc => by simp [go_sem, h0, hc]) ?_
  refine wpL_run2 (x := .tmp 105) (y := .tmp 107) (.bool false) (.bool false) (.bool false) (by kernel_rfl) (by kernel_rfl) (by kernel_rfl) (by kernel_rfl) (by kernel_rfl) (by kernel_rfl) (fun wx ρ hwx h0 h1 hc => by simp [go_sem, h0, h1]) ?_
  refine wpL_move (.bool false) rfl (by kernel_rfl) (by kernel_rfl) (by kernel_rfl) (by kernel_rfl) ?_
  refine wpL_move (.slice az 256 cz) rfl (by kernel_rfl) (by kernel_rfl) (by kernel_rfl) (by kernel_rfl) ?_
  refine wpL_convK (.slice az 256 cz) (strV b) rfl (by kernel_rfl) (by kernel_rfl) (by kernel_rfl) (by kernel_rfl) (fun wx hwx => CZ.out wx hwx) ?_
  refine wpL_move (.slice (some ⟨g, 0, none⟩) 256 256) rfl (by kernel_rfl) (by kernel_rfl) (by kernel_rfl) (by kernel_rfl) ?_
  refine wpL_convK (.slice (some ⟨g, 0, none⟩) 256 256) (strV b) rfl (by kernel_rfl) (by kernel_rfl) (by kernel_rfl) (by kernel_rfl) (fun wx hwx => CB.out wx hwx) ?_
  refine wpL_run2 (x := .tmp 111) (y := .tmp 113) (strV b) (strV b) (.bool false) (by kernel_rfl) (by kernel_rfl) (by kernel_rfl) (by kernel_rfl) (by kernel_rfl) (by kernel_rfl) (fun wx ρ hwx h0 h1 hc => neq_str rfl b b false (by simp) ρ wx h0 h1) ?_
  refine wpL_run2 (x := .tmp 109) (y := .tmp 114) (.bool false) (.bool false) (.bool false) (by kernel_rfl) (by kernel_rfl) (by kernel_rfl) (by kernel_rfl) (by kernel_rfl) (by kernel_rfl) (fun wx ρ hwx h0 h1 hc => by simp [go_sem, h0, h1]) ?_
  refine wpL_move (.bool false) rfl (by kernel_rfl) (by kernel_rfl) (by kernel_rfl) (by kernel_rfl) ?_
  refine wpL_run1 (x := .tmp 23) (.pointer (some ⟨b23, 0, none⟩)) (.pointer (some ⟨b23, 1, none⟩)) (by kernel_rfl) (by kernel_rfl) (by kernel_rfl) (by kernel_rfl) (by kernel_rfl) (fun wx ρ hwx h0 hc => by simp [go_sem, h0]) ?_
  refine wpL_run1 (x := .tmp 117) (.pointer (some ⟨b23, 1, none⟩)) (.int .u32 (ad : Int)) (by kernel_rfl) (by kernel_rfl) (by kernel_rfl) (by kernel_rfl) (by kernel_rfl) (fun wx ρ hwx h0 hc => by simp [h0, go_sem, D1.out wx hwx]) ?_
  refine wpL_move (.int .u32 (ad : Int)) rfl (by kernel_rfl) (by kernel_rfl) (by kernel_rfl) (by kernel_rfl) ?_
  refine wpL_run2 (x := .tmp 118) (y := .tmp 119) (.int .u32 (ad : Int)) (.int .u32 (ad : Int)) (.bool false) (by kernel_rfl) (by kernel_rfl) (by kernel_rfl) (by kernel_rfl) (by kernel_rfl) (by kernel_rfl) (fun wx ρ hwx h0 h1 hc => by simp [go_sem, h0, h1]) ?_
  refine wpL_run2 (x := .tmp 116) (y := .tmp 120) (.bool false) (.bool false) (.bool false) (by kernel_rfl) (by kernel_rfl) (by kernel_rfl) (by kernel_rfl) (by kernel_rfl) (by kernel_rfl) (fun wx ρ hwx h0 h1 hc => by simp [go_sem, h0, h1]) ?_
  refine wpL_move (.bool false) rfl (by kernel_rfl) (by kernel_rfl) (by kernel_rfl) (by kernel_rfl) ?_
  refine wpL_run1 (x := .tmp 23) (.pointer (some ⟨b23, 0, none⟩)) (.pointer (some ⟨b23, 2, none⟩)) (by kernel_rfl) (by kernel_rfl) (by kernel_rfl) (by kernel_rfl) (by kernel_rfl) (fun wx ρ hwx h0 hc => by simp [go_sem, h0]) ?_
  refine wpL_run1 (x := .tmp 123) (.pointer (some ⟨b23, 2, none⟩)) (.int .u64 (sq : Int)) (by kernel_rfl) (by kernel_rfl) (by kernel_rfl) (by kernel_rfl) (by kernel_rfl) (fun wx ρ hwx h0 hc => by simp [h0, go_sem, D2.out wx hwx]) ?_
  refine wpL_move (.int .u64 (sq : Int)) rfl (by kernel_rfl) (by kernel_rfl) (by kernel_rfl) (by kernel_rfl) ?_
  refine wpL_run2 (x := .tmp 124) (y := .tmp 125) (.int .u64 (sq : Int)) (.int .u64 (sq : Int)) (.bool false) (by kernel_rfl) (by kernel_rfl) (by kernel_rfl) (by kernel_rfl) (by kernel_rfl) (by kernel_rfl) (fun wx ρ hwx h0 h1 hc => by simp [go_sem, h0, h1]) ?_
  refine wpL_run2 (x := .tmp 122) (y := .tmp 126) (.bool false) (.bool false) (.bool false) (by kernel_rfl) (by kernel_rfl) (by kernel_rfl) (by kernel_rfl) (by kernel_rfl) (by kernel_rfl) (fun wx ρ hwx h0 h1 hc => by simp [go_sem, h0, h1]) ?_
  refine wpL_move (.bool false) rfl (by kernel_rfl) (by kernel_rfl) (by kernel_rfl) (by kernel_rfl) ?_
  refine wpL_move (.slice az 256 cz) rfl (by kernel_rfl) (by kernel_rfl) (by kernel_rfl) (by kernel_rfl) ?_
  refine wpL_runT (partsTy [b]) rfl (by kernel_rfl) (by kernel_rfl) (by kernel_rfl) (by kernel_rfl) (fun wx hwx => build1 rfl _ (by kernel_rfl) wx (VZ.out wx hwx) BL.out HCZ.out.1 HCZ.out.2.1 HCZ.out.2.2) ?_
  refine wpL_fnUV (t := 130) (R := partsTy [b]) (.agg (S.map byteV).toArray) rfl rfl (by kernel_rfl) (by kernel_rfl) (fun _ _ => by simp [go_sem]) (fun u wx hwx hu => CS2.out u wx hwx hu) ?_
  refine wpL_run1 (x := .tmp 23) (.pointer (some ⟨b23, 0, none⟩)) (.pointer (some ⟨b23, 3, none⟩)) (by kernel_rfl) (by kernel_rfl) (by kernel_rfl) (by kernel_rfl) (by kernel_rfl) (fun wx ρ hwx h0 hc => by simp [go_sem, h0]) ?_
  refine wpL_run1 (x := .tmp 132) (.pointer (some ⟨b23, 3, none⟩)) (.pointer (some ⟨b23, 3, none⟩)) (by kernel_rfl) (by kernel_rfl) (by kernel_rfl) (by kernel_rfl) (by kernel_rfl) (fun wx ρ hwx h0 hc => by simp [go_sem, h0]) ?_
  refine wpL_run1 (x := .tmp 133) (.pointer (some ⟨b23, 3, none⟩)) (.agg (S.map byteV).toArray) (by kernel_rfl) (by kernel_rfl) (by kernel_rfl) (by kernel_rfl) (by kernel_rfl) (fun wx ρ hwx h0 hc => loadSumAt rfl (RS.out wx hwx) SL.out ρ h0) ?_
  refine wpL_run2 (x := .tmp 131) (y := .tmp 134) (.agg (S.map byteV).toArray) (.agg (S.map byteV).toArray) (.bool false) (by kernel_rfl) (by kernel_rfl) (by kernel_rfl) (by kernel_rfl) (by kernel_rfl) (by kernel_rfl) (fun wx ρ hwx h0 h1 hc => Spo.neqSum rfl SL.out SL.out (decide_eq_true rfl) ρ wx h0 h1) ?_
  refine wpL_run2 (x := .tmp 128) (y := .tmp 135) (.bool false) (.bool false) (.bool false) (by kernel_rfl) (by kernel_rfl) (by kernel_rfl) (by kernel_rfl) (by kernel_rfl) (by kernel_rfl) (fun wx ρ hwx h0 h1 hc => by simp [go_sem, h0, h1]) ?_
  refine wpL_end (by kernel_rfl) (fun w13 hw13 v130 hv130 => ?_)
  simp only [FinL, setL, List.set_cons_zero, List.set_cons_succ]
  have L13 := Lib.hid (L12.out.later hw13)
  clear hv130 hw13 CZ CB D1 D2 VZ RS CS2 HCZ L12 G12 Z12 H12 HBL12
  have hkI : (gn : Int) % (N : Int) = (k : Int) := by rw [hk]; omega
  have hN0 : ¬ (N : Int) = 0 := by omega
  have htm : (gn : Int).tmod (N : Int) = (k : Int) := by rw [Int.tmod_eq_emod_of_nonneg (by omega)]; exact hkI
  obtain ⟨w14, hmk, hst⟩ := ab_make L13.out .i64 .i64 128 (by omega)
  obtain ⟨ge, hge⟩ : ∃ g, g = w13.heap.size := ⟨_, rfl⟩
  rw [← hge] at hmk hst
  have hmk2 : (Instr.makeSlice 22 (.int .i64 128) (.int .i64 128)).run Tryd.prog w13 = .ok (.slice (some ⟨ge, 0, none⟩) 128 128) w14 := hmk
  have HST := Lib.hid hst
  clear hst hge hmk L13 hk
  go_wp2
  clear hmk2
  go_loopw [145] (fun v wr => ∃ i : Nat, i ≤ 128 ∧ v = .int .i64 (i : Int) ∧ Own.St w6.heap.size w6 wr [AB (some ⟨ge, 0, none⟩) 128 128 (ones 255 128 i), AGrid 22 59 byteV (.slice al N cl) L]) (fun v _ => 128 - (intOf v).toNat)
  case atStart => exact ⟨0, Nat.zero_le _, rfl, by rw [ones_zero]; exact HST.out⟩
  case round =>
    obtain ⟨i, hi128, rfl, H⟩ := hrel
    have H := Lib.hid H
    clear HST
    by_cases hi : (i : Int) < 128
    · have hin : i < 128 := by omega
      obtain ⟨g', hg', cb, fb, hput⟩ := ab_byte H.out 0 rfl i hin
      cases hg'
      have PUT : Hid (Own.St w6.heap.size w6 (wr.setCell ⟨ge, i, none⟩ (.int .u8 255)) [AB (some ⟨ge, 0, none⟩) 128 128 (ones 255 128 (i + 1)), AGrid 22 59 byteV (.slice al N cl) L]) := by
        have h := hput 255
        simp only [List.set_cons_zero] at h
        rw [ones_set 255 128 i hin] at h
        exact h
      clear hput H
      go_wp2
      go_roundw
      case rel => exact ⟨i + 1, by omega, by go_num, PUT.out⟩
      case measure => simp [intOf]; omega
    · have h := H.out
      rw [show i = 128 by omega, ones_all] at h
      obtain ⟨rs, hrl, h1⟩ := Own.St.gridOpen h.swap2
      have hkL : k < L.length := by rw [← HNL.out]; exact hkN
      have ho : (gParts 22 59 byteV (.slice al N cl) rs L ++ [AB (some ⟨ge, 0, none⟩) 128 128 (List.replicate 128 255)])[0]? = some (gOuter 22 (.slice al N cl) rs L) := rfl
      unfold gOuter at ho
      rw [← HNL.out] at ho
      obtain ⟨_, hcl1, hcl2, _⟩ := h1.rowLen 0 ho
      obtain ⟨gb, hgb, ⟨u, hu, hc⟩, fz, put⟩ := h1.rowAt 0 ho k (by omega)
      subst hgb
      have h2 := put (.slice (some ⟨ge, 0, none⟩) 128 128)
      have GL : Hid (GivenL (wr.setCell ⟨gb, k, none⟩ (.slice (some ⟨ge, 0, none⟩) 128 128)) (some ⟨gb, 0, none⟩) N cl (L.set k FlaM.blank)) := by
        refine Pag.givenL_row 0 h2 (vs := (List.zipWith (fun r row => gsl r row.length) rs L).set k (.slice (some ⟨ge, 0, none⟩) 128 128)) rfl (by rw [List.length_set]; exact HNL.out.symm) (fun j hj => ?_)
        have hjL : j < L.length := by rw [← HNL.out]; exact hj
        have hjr : j < rs.length := by omega
        have hrs : rs[j]? = some rs[j] := List.getElem?_eq_getElem hjr
        have hLj : L[j]? = some L[j] := List.getElem?_eq_getElem hjL
        by_cases hjk : j = k
        · subst hjk
          refine ⟨_, List.getElem?_set_self (by rw [List.length_zipWith]; omega), ?_⟩
          have e : (L.set j FlaM.blank).getD j [] = FlaM.blank := by rw [List.getD_eq_getElem?_getD, List.getElem?_set_self hjL]; rfl
          rw [e]
          have hix : ((gParts 22 59 byteV (.slice (some ⟨gb, 0, none⟩) N cl) rs L ++ [AB (some ⟨ge, 0, none⟩) 128 128 (List.replicate 128 255)]).set 0 (ARow 22 1 (.slice (some ⟨gb, 0, none⟩) N cl) N ((List.zipWith (fun r row => gsl r row.length) rs L).set j (.slice (some ⟨ge, 0, none⟩) 128 128))))[L.length + 1]? = some (AB (some ⟨ge, 0, none⟩) 128 128 (List.replicate 128 255)) := by
            rw [List.getElem?_set_ne (by omega), List.getElem?_append_right (by unfold gParts; simp; omega)]
            unfold gParts
            simp [hrl]
          have g1 := given_own h2 (L.length + 1) hix
          exact ⟨some ⟨ge, 0, none⟩, 128, rfl, g1⟩
        · refine ⟨gsl rs[j] L[j].length, by rw [List.getElem?_set_ne (fun e => hjk e.symm)]; exact zip_at _ _ _ _ _ _ hrs hLj, ?_⟩
          have e : (L.set k FlaM.blank).getD j [] = L[j] := by rw [List.getD_eq_getElem?_getD, List.getElem?_set_ne (fun e => hjk e.symm), hLj]; rfl
          rw [e]
          have hz := zip_at (gRow 59 byteV) rs L j _ _ hrs hLj
          have hix : ((gParts 22 59 byteV (.slice (some ⟨gb, 0, none⟩) N cl) rs L ++ [AB (some ⟨ge, 0, none⟩) 128 128 (List.replicate 128 255)]).set 0 (ARow 22 1 (.slice (some ⟨gb, 0, none⟩) N cl) N ((List.zipWith (fun r row => gsl r row.length) rs L).set k (.slice (some ⟨ge, 0, none⟩) 128 128))))[j + 1]? = some (ARow 59 1 (.slice rs[j].1 L[j].length rs[j].2) L[j].length (L[j].map byteV)) := by
            rw [List.getElem?_set_ne (by omega)]
            unfold gParts
            rw [List.cons_append, List.getElem?_cons_succ, List.getElem?_append_left (List.getElem?_eq_some_iff.1 hz).1]
            exact hz
          obtain ⟨_, k1, k2, k3⟩ := h2.rowLen (j + 1) hix
          obtain ⟨Sj, hSj, _⟩ := h2.at (j + 1) hix
          exact ⟨rs[j].1, rs[j].2, rfl, ⟨(Row.view hSj).live.mono (fun _ hk => hk.2), rfl, ⟨k1, k2⟩, fun h => (k3 h).2⟩⟩
      have HBE : Hid (Below w.heap.size w (wr.setCell ⟨gb, k, none⟩ (.slice (some ⟨ge, 0, none⟩) 128 128))) := HB6.out.trans (h2.below.mono HB6.out.size)
      have hkN2 : k < N := hkN
      clear h h1 h2 put hu ho H hcl2 hrl
      go_wp2_with (fail)
      refine (C11.out _ _ _ GL.out).mono ?_
      clear C11 GL hc fz
      rintro e w20 ⟨a20, q20, rfl, hb20⟩
      have HBF : Hid (Below w.heap.size w w20) := HBE.out.trans (hb20.mono HBE.out.size)
      clear hb20
      go_wp2
      go_ret
      exact ⟨rfl, HBF.out⟩
end Top
end Go.Proofs.YtllmogicmimjlaaDoor

end
section
namespace Go.Proofs.YtllmogicmimjlaaDoor
open Go.RowKit Go.Own
namespace Rec
open Go.RecM Byt
theorem nat_u32 {a : Int} (h : (Lit.int .u32 a).wf = true) : ∃ u : Nat, a = u ∧ u < 4294967296 := by
  have : 0 ≤ a ∧ a < 4294967296 := by
    have : 0 ≤ a ∧ a ≤ 4294967295 := by simpa [Lit.wf, IntKind.min, IntKind.max, IntKind.signed, IntKind.bits] using h
    omega
  exact ⟨a.toNat, by omega, by omega⟩
theorem nat_u64 {a : Int} (h : (Lit.int .u64 a).wf = true) : ∃ u : Nat, a = u ∧ u < 18446744073709551616 := by
  have : 0 ≤ a ∧ a < 18446744073709551616 := by
    have : 0 ≤ a ∧ a ≤ 18446744073709551615 := by simpa [Lit.wf, IntKind.min, IntKind.max, IntKind.signed, IntKind.bits] using h
    omega
  exact ⟨a.toNat, by omega, by omega⟩
end Rec
end Go.Proofs.YtllmogicmimjlaaDoor

end
section
namespace Go.Proofs.YtllmogicmimjlaaDoor
open Go.RowKit Go.Own
namespace Top
open Byt
theorem in_pages (a0 : Option Addr) (len0 cap0 : Nat) (l : List UInt8) (c : Int) (hc : (Lit.int .u8 c).wf = true) (ad : Int) (had : (Lit.int .u32 ad).wf = true) (sq : Int) (hsq : (Lit.int .u64 sq).wf = true) (gn : Int) (hgn : (Lit.int .u8 gn).wf = true) {w : World} (w0 : inBytes l w.heap.size w [.slice a0 len0 cap0]) (T : Kec.Tab w) : Calls Tryd.prog 3 #[.slice a0 len0 cap0, .int .u8 c, .int .u32 ad, .int .u64 sq, .int .u8 gn] w (RetYes w) := by
  obtain ⟨c, rfl⟩ := u8_byte hc
  obtain ⟨g, rfl⟩ := u8_byte hgn
  obtain ⟨ad, rfl, h1⟩ := Rec.nat_u32 had
  obtain ⟨sq, rfl, h2⟩ := Rec.nat_u64 hsq
  exact walk_pages T a0 len0 cap0 l (in_given w0) c ad sq g.toNat h1 h2 (by have := g.toNat_lt; omega)
end Top
end Go.Proofs.YtllmogicmimjlaaDoor

end
