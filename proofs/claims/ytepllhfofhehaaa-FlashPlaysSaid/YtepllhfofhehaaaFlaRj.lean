/- Layer 7: alike. -/
import Derived.Test.YtepllhfofhehaaaFlaRi
import Derived.Laws.BitsAllLaws
namespace Go.Proofs.Ytepllhfofhehaaa
open Go.RowKit Go.Own
namespace Fla
open Go.FlaM Byt

theorem ref_cells {B : Nat} {w0 w : World} {Ps : List Asn} {q : Nat} {s : FS} (H : Own.St B w0 w Ps) (i : Nat) (hi : Ps[i]? = some (ARef q s)) :
    ∃ aS cS aW cW, w.cell? ⟨q, 0, none⟩ = some (.slice aS s.safe.length cS) ∧ w.cell? ⟨q, 2, none⟩ = some (.slice aW s.wear.length cW) ∧ w.cell? ⟨q, 3, none⟩ = some (.bool s.off) ∧ w.cell? ⟨q, 5, none⟩ = some (nuV s.n) ∧ w.cell? ⟨q, 6, none⟩ = some (nuV s.pp) ∧
      ∀ j, j < s.wear.length → ∃ g, aW = some ⟨g, 0, none⟩ ∧ w.cell? ⟨g, j, none⟩ = some (nuV (s.wear.getD j 0)) := by
  obtain ⟨vS, vL, vW, h⟩ := ref_open (H.front i hi)
  obtain ⟨aS, cS, rfl⟩ := grid_form h
  obtain ⟨aW, cW, rfl⟩ := h.rowForm 3 rfl
  refine ⟨aS, cS, aW, cW, (h.cellV 1 rfl 0 rfl).1, (h.cellV 1 rfl 2 rfl).1, (h.cellV 1 rfl 3 rfl).1, (h.cellV 1 rfl 5 rfl).1, (h.cellV 1 rfl 6 rfl).1, fun j hj => ?_⟩
  obtain ⟨g, h1, h2, _, _⟩ := rowW_at h 3 rfl j hj
  exact ⟨g, h1, h2⟩
theorem flip_byte (c : UInt8) : bits .xor .u8 (c.toNat : Int) 255 = ((c ^^^ 255).toNat : Int) := by
  have e := u8_xor_nat c.toNat 255 c.toNat_lt (by decide)
  rw [UInt8.toNat_xor]
  exact e
theorem wearOf_out {s : FS} {N : Nat} (h : Ok s N) (x : Int) (hx : ¬ (0 ≤ x ∧ x < (s.safe.length : Int))) : wearOf s x = 0 := by
  unfold wearOf
  split
  · rw [List.getD_eq_getElem?_getD, List.getElem?_eq_none (by have := h.wear; omega)]; rfl
  · rfl
theorem wearOf_in {s : FS} (j : Nat) : wearOf s (j : Int) = s.wear.getD j 0 := by
  unfold wearOf; rw [if_pos (by omega)]; rfl

section
variable {W : World} (K : Kept W)
set_option maxRecDepth 4000 in
set_option maxHeartbeats 8000000 in
theorem alike_any {B : Nat} {w0 w : World} {Ps : List Asn} {p q : Nat} {s : FS} {N : Nat} (hWB : ∀ wx, Below B w0 wx → Below W.heap.size W wx) (H : Own.St B w0 w (K.A p s :: ARef q s :: Ps)) (hok : Ok s N) (hN : N ≤ 10000) :
    Calls Try.prog 22 #[ptr p, ptr q] w fun e w' => e = .returned (.bool true) ∧ Own.St B w0 w' (K.A p s :: ARef q s :: Ps) := by
  have HWB := Lib.hid hWB
  have HOK := Lib.hid hok
  have HH := Lib.hid H
  obtain ⟨nS, hnS⟩ : ∃ n, n = s.safe.length := ⟨_, rfl⟩
  obtain ⟨pp, hpp⟩ : ∃ n, n = s.pp := ⟨_, rfl⟩
  obtain ⟨fl, hfl⟩ : ∃ n, n = s.off := ⟨_, rfl⟩
  obtain ⟨nn, hnn⟩ : ∃ n, n = s.n := ⟨_, rfl⟩
  have HNS := Lib.hid hnS
  have HPP := Lib.hid hpp
  have hnsb : nS ≤ 256 := by rw [hnS]; exact hok.segs
  have hppb : pp ≤ 64 := by rw [hpp]; exact hok.pp.2
  have hnnb : nn ≤ 10000 := by rw [hnn]; exact Nat.le_trans hok.n hN
  have CSG : Hid (∀ wx, Below w.heap.size w wx → Calls Try.prog 30 #[ptr p] wx fun e w' => e = .returned (nuV nS) ∧ Below wx.heap.size wx w') := fun wx hwx => by
    rw [hnS]; exact K.segs (hWB _ (H.later hwx).below) (H.later hwx) hok hN
  have CPG : Hid (∀ wx, Below w.heap.size w wx → Calls Try.prog 31 #[ptr p] wx fun e w' => e = .returned (nuV pp) ∧ Below wx.heap.size wx w') := fun wx hwx => by
    rw [hpp]; exact K.pages (hWB _ (H.later hwx).below) (H.later hwx) hok hN
  have CDD : Hid (∀ wx, Below w.heap.size w wx → Calls Try.prog 29 #[ptr p] wx fun e w' => e = .returned (.bool fl) ∧ Below wx.heap.size wx w') := fun wx hwx => by
    rw [hfl]; exact K.dead (hWB _ (H.later hwx).below) (H.later hwx) hok hN
  have CDN : Hid (∀ wx, Below w.heap.size w wx → Calls Try.prog 27 #[ptr p] wx fun e w' => e = .returned (nuV nn) ∧ Below wx.heap.size wx w') := fun wx hwx => by
    rw [hnn]; exact K.done (hWB _ (H.later hwx).below) (H.later hwx) hok hN
  obtain ⟨aS, cS, aW, cW, r0, r2, r3, r5, r6, rw_⟩ := ref_cells H 1 rfl
  rw [← hnS] at r0
  rw [← hfl] at r3
  rw [← hnn] at r5
  rw [← hpp] at r6
  have R0 : Hid (∀ wx, Below w.heap.size w wx → wx.cell? ⟨q, 0, none⟩ = some (.slice aS nS cS)) := fun wx hwx => cellLater r0 hwx
  have R3 : Hid (∀ wx, Below w.heap.size w wx → wx.cell? ⟨q, 3, none⟩ = some (.bool fl)) := fun wx hwx => cellLater r3 hwx
  have R5 : Hid (∀ wx, Below w.heap.size w wx → wx.cell? ⟨q, 5, none⟩ = some (nuV nn)) := fun wx hwx => cellLater r5 hwx
  have R6 : Hid (∀ wx, Below w.heap.size w wx → wx.cell? ⟨q, 6, none⟩ = some (nuV pp)) := fun wx hwx => cellLater r6 hwx
  clear r0 r2 r3 r5 r6 rw_ hfl hnn hnS hpp H hok hWB
  go_enter Try.func22, Try.ntmps22
  go_wp2_with (fail)
  refine wp_lax_list (by kernel_rfl) (by kernel_rfl) (by kernel_rfl) ?_
  refine wpL_move (ptr p) rfl (by kernel_rfl) (by kernel_rfl) (by kernel_rfl) (by kernel_rfl) ?_
  refine wpL_fn (nuV nS) [ptr p] rfl (by kernel_rfl) (by kernel_rfl) (by kernel_rfl) (by kernel_rfl) (fun _ _ => by simp [go_sem]) (fun wx hwx => CSG.out wx hwx) ?_
  refine wpL_move (ptr q) rfl (by kernel_rfl) (by kernel_rfl) (by kernel_rfl) (by kernel_rfl) ?_
  refine wpL_run1 (x := .tmp 15) (ptr q) (ptr q) (by kernel_rfl) (by kernel_rfl) (by kernel_rfl) (by kernel_rfl) (by kernel_rfl) (fun wx ρ hwx h0 hc => by simp [go_sem, h0, hc]) ?_
  refine wpL_run1 (x := .tmp 16) (ptr q) (ptr q) (by kernel_rfl) (by kernel_rfl) (by kernel_rfl) (by kernel_rfl) (by kernel_rfl) (fun wx ρ hwx h0 hc => by simp [go_sem, h0, hc]) ?_
  refine wpL_run1 (x := .tmp 17) (ptr q) (.slice aS nS cS) (by kernel_rfl) (by kernel_rfl) (by kernel_rfl) (by kernel_rfl) (by kernel_rfl) (fun wx ρ hwx h0 hc => by simp [go_sem, h0, hc, R0.out wx hwx]) ?_
  refine wpL_run1 (x := .tmp 18) (.slice aS nS cS) (nuV nS) (by kernel_rfl) (by kernel_rfl) (by kernel_rfl) (by kernel_rfl) (by kernel_rfl) (fun wx ρ hwx h0 hc => by simp [go_sem, h0, hc]) ?_
  refine wpL_run2 (x := .tmp 14) (y := .tmp 19) (nuV nS) (nuV nS) (.bool false) (by kernel_rfl) (by kernel_rfl) (by kernel_rfl) (by kernel_rfl) (by kernel_rfl) (by kernel_rfl) (fun wx ρ hwx h0 h1 hc => by simp [go_sem, h0, h1, hc]) ?_
  refine wpL_move (.bool false) rfl (by kernel_rfl) (by kernel_rfl) (by kernel_rfl) (by kernel_rfl) ?_
  refine wpL_move (ptr p) rfl (by kernel_rfl) (by kernel_rfl) (by kernel_rfl) (by kernel_rfl) ?_
  refine wpL_fn (nuV pp) [ptr p] rfl (by kernel_rfl) (by kernel_rfl) (by kernel_rfl) (by kernel_rfl) (fun _ _ => by simp [go_sem]) (fun wx hwx => CPG.out wx hwx) ?_
  refine wpL_move (ptr q) rfl (by kernel_rfl) (by kernel_rfl) (by kernel_rfl) (by kernel_rfl) ?_
  refine wpL_run1 (x := .tmp 24) (ptr q) (ptr q) (by kernel_rfl) (by kernel_rfl) (by kernel_rfl) (by kernel_rfl) (by kernel_rfl) (fun wx ρ hwx h0 hc => by simp [go_sem, h0, hc]) ?_
  refine wpL_run1 (x := .tmp 25) (ptr q) (.pointer (some ⟨q, 6, none⟩)) (by kernel_rfl) (by kernel_rfl) (by kernel_rfl) (by kernel_rfl) (by kernel_rfl) (fun wx ρ hwx h0 hc => by simp [go_sem, h0, hc]) ?_
  refine wpL_run1 (x := .tmp 26) (.pointer (some ⟨q, 6, none⟩)) (nuV pp) (by kernel_rfl) (by kernel_rfl) (by kernel_rfl) (by kernel_rfl) (by kernel_rfl) (fun wx ρ hwx h0 hc => by simp [go_sem, h0, hc, R6.out wx hwx]) ?_
  refine wpL_run2 (x := .tmp 23) (y := .tmp 27) (nuV pp) (nuV pp) (.bool false) (by kernel_rfl) (by kernel_rfl) (by kernel_rfl) (by kernel_rfl) (by kernel_rfl) (by kernel_rfl) (fun wx ρ hwx h0 h1 hc => by simp [go_sem, h0, h1, hc]) ?_
  refine wpL_run2 (x := .tmp 21) (y := .tmp 28) (.bool false) (.bool false) (.bool false) (by kernel_rfl) (by kernel_rfl) (by kernel_rfl) (by kernel_rfl) (by kernel_rfl) (by kernel_rfl) (fun wx ρ hwx h0 h1 hc => by simp [go_sem, h0, h1, hc]) ?_
  refine wpL_move (.bool false) rfl (by kernel_rfl) (by kernel_rfl) (by kernel_rfl) (by kernel_rfl) ?_
  refine wpL_move (ptr p) rfl (by kernel_rfl) (by kernel_rfl) (by kernel_rfl) (by kernel_rfl) ?_
  refine wpL_fn (.bool fl) [ptr p] rfl (by kernel_rfl) (by kernel_rfl) (by kernel_rfl) (by kernel_rfl) (fun _ _ => by simp [go_sem]) (fun wx hwx => CDD.out wx hwx) ?_
  refine wpL_move (ptr q) rfl (by kernel_rfl) (by kernel_rfl) (by kernel_rfl) (by kernel_rfl) ?_
  refine wpL_run1 (x := .tmp 33) (ptr q) (ptr q) (by kernel_rfl) (by kernel_rfl) (by kernel_rfl) (by kernel_rfl) (by kernel_rfl) (fun wx ρ hwx h0 hc => by simp [go_sem, h0, hc]) ?_
  refine wpL_run1 (x := .tmp 34) (ptr q) (.pointer (some ⟨q, 3, none⟩)) (by kernel_rfl) (by kernel_rfl) (by kernel_rfl) (by kernel_rfl) (by kernel_rfl) (fun wx ρ hwx h0 hc => by simp [go_sem, h0, hc]) ?_
  refine wpL_run1 (x := .tmp 35) (.pointer (some ⟨q, 3, none⟩)) (.bool fl) (by kernel_rfl) (by kernel_rfl) (by kernel_rfl) (by kernel_rfl) (by kernel_rfl) (fun wx ρ hwx h0 hc => by simp [go_sem, h0, hc, R3.out wx hwx]) ?_
  refine wpL_run2 (x := .tmp 32) (y := .tmp 36) (.bool fl) (.bool fl) (.bool false) (by kernel_rfl) (by kernel_rfl) (by kernel_rfl) (by kernel_rfl) (by kernel_rfl) (by kernel_rfl) (fun wx ρ hwx h0 h1 hc => by simp [go_sem, h0, h1, hc]) ?_
  refine wpL_run2 (x := .tmp 30) (y := .tmp 37) (.bool false) (.bool false) (.bool false) (by kernel_rfl) (by kernel_rfl) (by kernel_rfl) (by kernel_rfl) (by kernel_rfl) (by kernel_rfl) (fun wx ρ hwx h0 h1 hc => by simp [go_sem, h0, h1, hc]) ?_
  refine wpL_move (.bool false) rfl (by kernel_rfl) (by kernel_rfl) (by kernel_rfl) (by kernel_rfl) ?_
  refine wpL_move (ptr p) rfl (by kernel_rfl) (by kernel_rfl) (by kernel_rfl) (by kernel_rfl) ?_
  refine wpL_fn (nuV nn) [ptr p] rfl (by kernel_rfl) (by kernel_rfl) (by kernel_rfl) (by kernel_rfl) (fun _ _ => by simp [go_sem]) (fun wx hwx => CDN.out wx hwx) ?_
  refine wpL_move (ptr q) rfl (by kernel_rfl) (by kernel_rfl) (by kernel_rfl) (by kernel_rfl) ?_
  refine wpL_run1 (x := .tmp 42) (ptr q) (ptr q) (by kernel_rfl) (by kernel_rfl) (by kernel_rfl) (by kernel_rfl) (by kernel_rfl) (fun wx ρ hwx h0 hc => by simp [go_sem, h0, hc]) ?_
  refine wpL_run1 (x := .tmp 43) (ptr q) (.pointer (some ⟨q, 5, none⟩)) (by kernel_rfl) (by kernel_rfl) (by kernel_rfl) (by kernel_rfl) (by kernel_rfl) (fun wx ρ hwx h0 hc => by simp [go_sem, h0, hc]) ?_
  refine wpL_run1 (x := .tmp 44) (.pointer (some ⟨q, 5, none⟩)) (nuV nn) (by kernel_rfl) (by kernel_rfl) (by kernel_rfl) (by kernel_rfl) (by kernel_rfl) (fun wx ρ hwx h0 hc => by simp [go_sem, h0, hc, R5.out wx hwx]) ?_
  refine wpL_run2 (x := .tmp 41) (y := .tmp 45) (nuV nn) (nuV nn) (.bool false) (by kernel_rfl) (by kernel_rfl) (by kernel_rfl) (by kernel_rfl) (by kernel_rfl) (by kernel_rfl) (fun wx ρ hwx h0 h1 hc => by simp [go_sem, h0, h1, hc]) ?_
  refine wpL_run2 (x := .tmp 39) (y := .tmp 46) (.bool false) (.bool false) (.bool false) (by kernel_rfl) (by kernel_rfl) (by kernel_rfl) (by kernel_rfl) (by kernel_rfl) (by kernel_rfl) (fun wx ρ hwx h0 h1 hc => by simp [go_sem, h0, h1, hc]) ?_
  refine wpL_end (by kernel_rfl) (fun w1 hw1 => ?_)
  simp only [FinL, setL, List.set_cons_zero, List.set_cons_succ]
  have H1 := Lib.hid (HH.out.later hw1)
  clear hw1 HH CSG CPG CDD CDN R0 R3 R5 R6
  obtain ⟨mS, hmS⟩ : ∃ m, m = min 6 nS := ⟨_, rfl⟩
  obtain ⟨mP, hmP⟩ : ∃ m, m = min 6 pp := ⟨_, rfl⟩
  have minS : ∀ wx, (Builtin.min_ #[3, 3] 3 #[.int .i64 6, .int .i64 (nS : Int)]).run Try.prog wx = .ok (.int .i64 (mS : Int)) wx := by
    intro wx
    rw [show (mS : Int) = min 6 (nS : Int) by omega]
    simp [Builtin.min_, Builtin.min2, go_sem]
    try omega
  have minP : ∀ wx, (Builtin.min_ #[3, 3] 3 #[.int .i64 6, .int .i64 (pp : Int)]).run Try.prog wx = .ok (.int .i64 (mP : Int)) wx := by
    intro wx
    rw [show (mP : Int) = min 6 (pp : Int) by omega]
    simp [Builtin.min_, Builtin.min2, go_sem]
    try omega
  have hmS6 : mS ≤ 6 := by omega
  have hmP6 : mP ≤ 6 := by omega
  have HMS := Lib.hid hmS
  clear hmS hmP
  go_wp2
  go_loopw [5] (fun v5 wr => ∃ ii : Int, -1 ≤ ii ∧ ii ≤ (mS : Int) + 1 ∧ v5 = .int .i64 ii ∧ Own.St B w0 wr (K.A p s :: ARef q s :: Ps)) (fun v5 _ => (100 - intOf v5).toNat)
  case atStart => exact ⟨-1, by omega, by omega, rfl, H1.out⟩
  case round =>
    obtain ⟨ii, hi1, hi2, rfl, hG⟩ := hrel
    have G := Lib.hid hG
    clear hG H1
    obtain ⟨aS, cS, aW, cW, r0, r2, r3, r5, r6, rww⟩ := ref_cells G.out 1 rfl
    rw [← HNS.out] at r0
    rw [HOK.out.wear, ← HNS.out] at r2 rww
    have RWW := Lib.hid rww
    have hii : i64B ii := ⟨by omega, by omega⟩
    obtain ⟨wo, hwo⟩ : ∃ wo, wo = wearOf s ii := ⟨_, rfl⟩
    have CW : Hid (∀ wx, Below wr.heap.size wr wx → Calls Try.prog 28 #[ptr p, .int .i64 ii] wx fun e w' => e = .returned (.int .i64 (wo : Int)) ∧ Below wx.heap.size wx w') := fun wx hwx => by
      rw [hwo]; exact K.wear ii (HWB.out _ (G.out.later hwx).below) (G.out.later hwx) HOK.out hN hii
    have HWO := Lib.hid hwo
    clear hwo r3 r5 r6 rww
    by_cases hle : ii ≤ (mS : Int)
    · have HCASE : (∃ gW, 0 ≤ ii ∧ ii < (nS : Int) ∧ aW = some ⟨gW, 0, none⟩ ∧ wr.cell? ⟨gW, ii.toNat, none⟩ = some (.int .i64 (wo : Int))) ∨ (ii < 0 ∧ wo = 0) ∨ (0 ≤ ii ∧ ¬ ii < (nS : Int) ∧ wo = 0) := by
        by_cases h0 : 0 ≤ ii
        · by_cases h1 : ii < (nS : Int)
          · obtain ⟨gW, h3, h4⟩ := RWW.out ii.toNat (by omega)
            refine .inl ⟨gW, h0, h1, h3, ?_⟩
            rw [h4, HWO.out, show ii = ((ii.toNat : Nat) : Int) by omega, wearOf_in]
            rfl
          · exact .inr (.inr ⟨h0, h1, by rw [HWO.out]; exact wearOf_out HOK.out ii (by have := HNS.out; omega)⟩)
        · exact .inr (.inl ⟨by omega, by rw [HWO.out]; exact wearOf_out HOK.out ii (by omega)⟩)
      clear RWW
      rcases HCASE with ⟨gW, hin0, hin1, rfl, rj⟩ | ⟨hin0, rfl⟩ | ⟨hin0, hin1, rfl⟩
      all_goals
        go_wp2_with (fail)
        refine (CW.out wr (Below.refl _ _)).mono ?_
        rintro e w2 ⟨rfl, h2⟩
        have G2 := Lib.hid (G.out.later h2)
        clear h2 G CW r0 r2
        try clear rj
        go_wp2
        go_loopw [7] (fun v7 wr => ∃ kk : Int, -1 ≤ kk ∧ kk ≤ (mP : Int) + 1 ∧ v7 = .int .i64 kk ∧ Own.St B w0 wr (K.A p s :: ARef q s :: Ps)) (fun v7 _ => (100 - intOf v7).toNat)
        case atStart => exact ⟨-1, by omega, by omega, rfl, G2.out⟩
        case round =>
          obtain ⟨kk, hk1, hk2, rfl, hG⟩ := hrel
          have G3 := Lib.hid hG
          clear hG G2
          obtain ⟨aS, cS, aW, cW, r0, r2, r3, r5, r6, rww⟩ := ref_cells G3.out 1 rfl
          rw [← HPP.out] at r6
          clear r0 r2 r3 r5 rww
          by_cases hkl : kk ≤ (mP : Int)
          · obtain ⟨y, er, hy⟩ : ∃ y er, FlaM.read s ii kk = (y, er) := ⟨_, _, rfl⟩
            have RD := Lib.hid (K.read ii kk (HWB.out _ G3.out.below) G3.out HOK.out hN hii ⟨by omega, by omega⟩)
            rw [hy] at RD
            have HY := Lib.hid hy
            obtain ⟨n, hn⟩ : ∃ n, n = y.length := ⟨_, rfl⟩
            simp only at RD
            rw [← hn] at RD
            clear hy hn
            go_wp2_with (fail)
            refine RD.out.mono ?_
            clear RD
            rintro e w3 ⟨ab, cb, rfl, h3⟩
            have H3 := Lib.hid h3
            clear h3 G3 r6
            have RR := Lib.hid (readR_any (H3.out.front 2 rfl) HOK.out (by omega) ii kk)
            rw [HY.out] at RR
            go_wp2_with (fail)
            refine RR.out.mono ?_
            clear RR
            rintro e w4 ⟨rfl, h4⟩
            have H4 := Lib.hid (H3.out.later h4)
            clear h4 H3
            have hst := ab_str H4.out 0 rfl
            have hlen := ab_len H4.out 0 rfl
            have hn : n ≤ 9223372036854775807 := by have := hlen.2.1; have := hlen.2.2.1; unfold maxLen at this; omega
            have HLEN := Lib.hid hlen
            clear hlen
            go_wp2_with (refine wpList_val rfl (neq_str rfl y y false (by simp) _ _ rfl rfl) ?_)
            clear hst
            go_loopw [115] (fun v wr => ∃ (j : Nat) (l' : Bs), j ≤ n ∧ v = .int .i64 (j : Int) ∧ Own.St B w0 wr (AB ab n cb l' :: K.A p s :: ARef q s :: Ps)) (fun v _ => n - (intOf v).toNat)
            case atStart => exact ⟨0, y, Nat.zero_le _, rfl, H4.out⟩
            case round =>
              obtain ⟨j, l', hjn, rfl, hG⟩ := hrel
              have G5 := Lib.hid hG
              clear hG H4
              by_cases hj : j < n
              · obtain ⟨g, rfl, cb_, fb_, put⟩ := ab_byte G5.out 0 rfl j hj
                obtain ⟨c, hc⟩ : ∃ c, c = l'.getD j 0 := ⟨_, rfl⟩
                rw [← hc] at cb_
                have P6 := Lib.hid (put (c ^^^ 255))
                have hx := flip_byte c
                clear put hc
                go_wp2
                clear cb_ fb_
                go_roundw
                case rel => exact ⟨j + 1, _, by omega, by go_num, P6.out⟩
                case measure => simp [intOf]; omega
              · have G6 := Lib.hid (G5.out.drop 1)
                clear G5
                go_wp2
                go_roundw
                case rel => exact ⟨kk + 1, by omega, by omega, by go_num, G6.out⟩
                case measure => simp [intOf]; omega
          · go_wp2
            go_roundw
            case rel => exact ⟨ii + 1, by omega, by omega, by go_num, G3.out⟩
            case measure => simp [intOf]; omega
    · go_wp2
      go_ret
      exact ⟨rfl, G.out⟩
end
end Fla
end Go.Proofs.Ytepllhfofhehaaa
