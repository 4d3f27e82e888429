/- FlashTorn: the walk. -/
import Derived.Test.YtepllhfofhehaaaFlaT
import Derived.Test.YtepllhfofhehaaaLaxU
namespace Go.Proofs.Ytepllhfofhehaaa
open Go.RowKit Go.Own
namespace Fla
open Go.FlaM Byt

theorem strB_app (a b : List UInt8) : strB a ++ strB b = strB (a ++ b) := by
  apply ByteArray.ext
  rw [ByteArray.data_append]
  simp [strB]

set_option maxRecDepth 6000 in
set_option maxHeartbeats 16000000 in
theorem walk_torn (x : List UInt8) (hx : x.length = 128) (f0 : Int) (hf : i64B f0) {w : World} (K : Kept w) :
    Calls Try.prog 6 #[.agg (x.map byteV).toArray, .int .i64 f0] w (RetYes w) := by
  obtain ⟨w1, hw1⟩ : ∃ w1, w1 = w.alloc (.cells (x.map byteV).toArray 52) := ⟨_, rfl⟩
  obtain ⟨bx, hbx⟩ : ∃ b, b = w.heap.size := ⟨_, rfl⟩
  have HB1 : Hid (Below w.heap.size w w1) := by rw [hw1]; exact ((Own.St.start w).alloc _).below
  have GX : Hid (Given w1 (some ⟨bx, 0, none⟩) 128 128 x) := by
    have h := given_new w x 128 hx (by omega) 52 (0, 0)
    rw [← hbx] at h
    rw [hw1]
    exact h
  have WB : Hid (∀ wx, Below w1.heap.size w1 wx → Below w.heap.size w wx) := fun wx h => HB1.out.trans (h.mono HB1.out.size)
  have SH := Lib.hid (shown_any K HB1.out)
  have PG : Hid (∀ wx, Calls Try.prog 19 #[.int .u8 255] wx fun e w' => ∃ v, e = .returned v ∧ (tyR FlaM.blank).holds v w' ∧ Below wx.heap.size wx w') := fun wx => page_ty 255 wx
  obtain ⟨m, hm⟩ : ∃ m, m = min f0.toNat 128 := ⟨_, rfl⟩
  obtain ⟨f1, hf1⟩ : ∃ f, f = min f0 128 := ⟨_, rfl⟩
  have hm128 : m ≤ 128 := by omega
  have hmin : ∀ wx, (Builtin.min_ #[3, 3] 3 #[.int .i64 f0, .int .i64 128]).run Try.prog wx = .ok (.int .i64 f1) wx := by
    intro wx
    rw [hf1]
    simp [Builtin.min_, Builtin.min2, go_sem]
    try omega
  have hmax : ∀ wx, (Builtin.max_ #[3, 3] 3 #[.int .i64 0, .int .i64 f1]).run Try.prog wx = .ok (.int .i64 (m : Int)) wx := by
    intro wx
    have e : (m : Int) = max 0 f1 := by omega
    rw [e]
    simp [Builtin.max_, Builtin.max2, go_sem]
    try omega
  have HM := Lib.hid hm
  have HX := Lib.hid hx
  have IJ : Hid (∀ j, j < 1 → i64B ([f0].getD j 0)) := by
    intro j hj
    obtain rfl : j = 0 := by omega
    exact hf
  obtain ⟨q1, q2, q3, q4, q5⟩ := prog_step on3_fresh (i := 1) (k := 1) (by decide) (by decide) x hx (now_fresh 2 3 1 1 (by decide) (by decide))
  obtain ⟨s1, hs1⟩ : ∃ s, s = (progF (fresh 2 3) ((1 : Nat) : Int) ((1 : Nat) : Int) x).1 := ⟨_, rfl⟩
  have e1 : progF (fresh 2 3) 1 1 x = (s1, 0) := by rw [hs1]; exact Prod.ext rfl q1
  rw [← hs1] at q2 q3 q4 q5
  have p4 : pageAt s1.safe 1 1 = FlaM.blank := by rw [q4]; rfl
  obtain ⟨r1, r2, r3⟩ := crash_one q2 f0 _ q3
  obtain ⟨s2, hs2⟩ : ∃ s, s = crash s1 [f0] := ⟨_, rfl⟩
  rw [← hs2] at r1 r2 r3
  obtain ⟨y, hy⟩ : ∃ y, y = torn x f0 := ⟨_, rfl⟩
  have e3 : FlaM.read s2 1 1 = (y, 0) := by
    have h := read_on r1 (i := 1) (k := 1) (by decide) (by decide)
    rw [r3] at h
    rw [hy, ← torn_page q2 x f0 p4]
    exact h
  obtain ⟨t1, t2, t3, t4, t5⟩ := erase_step r1 (i := 1) (by decide)
  obtain ⟨s3, hs3⟩ : ∃ s, s = (erase s2 ((1 : Nat) : Int)).1 := ⟨_, rfl⟩
  have e4 : erase s2 1 = (s3, 0) := by rw [hs3]; exact Prod.ext rfl t1
  rw [← hs3] at t2 t3 t4 t5
  have N3 : Hid (∀ k : Nat, now s3 1 k = FlaM.blank) := fun k => by rw [t5, if_pos rfl]
  have ON1 := Lib.hid q2
  have ON2 := Lib.hid r1
  have ON3 := Lib.hid t2
  have E1 := Lib.hid e1
  have E2 : Hid (crash s1 [f0] = s2) := hs2.symm
  have E3 := Lib.hid e3
  have E4 := Lib.hid e4
  have HY : Hid (y = x.take m ++ FlaM.blank.drop m) := by show _ = _; rw [hy, hm]; rfl
  have hyl : y.length = 128 := by rw [HY.out, List.length_append, List.length_take, List.length_drop, hx, blank_len]; omega
  have HYL := Lib.hid hyl
  clear q1 q2 q3 q4 q5 p4 r1 r2 r3 t1 t2 t3 t4 t5 e1 e3 e4 hs1 hs2 hs3 hy hyl hm hf1 hx hf
  go_enter Try.func6, Try.ntmps6
  go_wp2_with (fail)
  rw [← hw1, ← hbx]
  clear hw1 hbx
  refine SH.out.mono ?_
  rintro e w2 ⟨rfl, h2⟩
  have H2 := Lib.hid ((Own.St.start w1).later h2)
  clear h2
  go_wp2_with (fail)
  have NEW : Hid (Calls Try.prog 12 #[.int .i64 2, .int .i64 3] w2 fun e w' => ∃ p, e = .returned (.tuple #[ptr p, .int .i64 0]) ∧ Own.St w1.heap.size w1 w' [K.A p (fresh 2 3)]) := by
    refine (K.new 2 3 (WB.out _ H2.out.below) H2.out (by decide) (by decide)).mono ?_
    intro e w' h
    rw [if_pos (by decide)] at h
    exact h
  refine NEW.out.mono ?_
  rintro e w3 ⟨p, rfl, h3⟩
  have H3 := Lib.hid h3
  clear h3 NEW H2
  have PR1 : Hid (Calls Try.prog 18 #[ptr p, .int .i64 1, .int .i64 1, .slice (some ⟨bx, 0, none⟩) 128 128] w3 fun e w' => e = .returned (.int .i64 0) ∧ Own.St w1.heap.size w1 w' [K.A p s1]) := by
    have h := K.program 1 1 (some ⟨bx, 0, none⟩) 128 128 x (WB.out _ H3.out.below) H3.out on3_fresh.ok (by omega) (by decide) (by decide) ⟨GX.out.later H3.out.below, .inr (GX.out.view.below H3.out.below)⟩ (by omega)
    rw [E1.out] at h
    exact h
  go_wp2_with (fail)
  refine PR1.out.mono ?_
  rintro e w4 ⟨rfl, h4⟩
  have H4 := Lib.hid h4
  have h4b := (h4.boxV 3 [.int .i64 f0]).swap2
  have CR1 : Hid (Calls Try.prog 16 #[ptr p, .slice (some ⟨w4.heap.size, 0, none⟩) 1 1] (w4.alloc (.cells #[.int .i64 f0] 3)) fun e w' => e = .returned (.tuple #[]) ∧ Own.St w1.heap.size w1 w' [K.A p s2]) := by
    have h := K.crash (some ⟨w4.heap.size, 0, none⟩) 1 1 [f0] (WB.out _ h4b.below) h4b ON1.out.ok (by omega) ⟨rfl, ⟨by omega, by decide⟩, (by intro e; cases e), IJ.out, .inl ⟨0, _, rfl, rfl⟩⟩
    rw [E2.out] at h
    refine h.mono ?_
    rintro e w' ⟨he, h'⟩
    exact ⟨he, h'.drop2⟩
  clear h4 h4b H3 PR1
  go_wp2_with (fail)
  refine CR1.out.mono ?_
  rintro e w5 ⟨rfl, h5⟩
  have H5 := Lib.hid h5
  clear h5 CR1 H4
  have RD1 : Hid (Calls Try.prog 23 #[ptr p, .int .i64 1, .int .i64 1] w5 fun e w' => ∃ ao cap, e = .returned (.tuple #[.slice ao 128 cap, .int .i64 0]) ∧ Own.St w1.heap.size w1 w' [AB ao 128 cap y, K.A p s2]) := by
    have h := K.read 1 1 (WB.out _ H5.out.below) H5.out ON2.out.ok (by omega) (by decide) (by decide)
    rw [E3.out] at h
    rw [← HYL.out]
    exact h
  go_wp2_with (fail)
  refine RD1.out.mono ?_
  rintro e w6 ⟨ar, cr, rfl, h6⟩
  have H6 := Lib.hid h6
  have GB : Hid (Given w6 ar 128 cr y) := given_own h6 0 rfl
  have GX6 := Lib.hid (GX.out.later h6.below)
  clear h6 RD1 H5
  go_wp2_with (at_builtin; simp only [hmin, hmax])
  clear hmin hmax
  have HSZ : Hid ((strB (x.take m)).size + (strB (FlaM.blank.drop m)).size ≤ 9223372036854775807) := by
    show (x.take m).toArray.size + (FlaM.blank.drop m).toArray.size ≤ 9223372036854775807
    rw [List.size_toArray, List.size_toArray, List.length_take, List.length_drop, blank_len]
    omega
  refine wp_lax_list (by kernel_rfl) (by kernel_rfl) (by kernel_rfl) ?_
  refine wpL_move (.int .i64 0) rfl (by kernel_rfl) (by kernel_rfl) (by kernel_rfl) (by kernel_rfl) ?_
  refine wpL_run1 (x := .tmp 43) (.int .i64 0) (.bool false) (by kernel_rfl) (by kernel_rfl) (by kernel_rfl) (by kernel_rfl) (by kernel_rfl) (fun wx ρ hwx h0 hc => by simp [go_sem, h0, hc]) ?_
  refine wpL_move (.bool false) rfl (by kernel_rfl) (by kernel_rfl) (by kernel_rfl) (by kernel_rfl) ?_
  refine wpL_move (.slice ar 128 cr) rfl (by kernel_rfl) (by kernel_rfl) (by kernel_rfl) (by kernel_rfl) ?_
  refine wpL_convK (.slice ar 128 cr) (.string (strB y)) rfl (by kernel_rfl) (by kernel_rfl) (by kernel_rfl) (by kernel_rfl) (fun wx hwx => given_str (GB.out.later hwx)) ?_
  refine wpL_move (.int .i64 (m : Int)) rfl (by kernel_rfl) (by kernel_rfl) (by kernel_rfl) (by kernel_rfl) ?_
  refine wpL_run2 (x := .tmp 2) (y := .tmp 48) (.pointer (some ⟨bx, 0, none⟩)) (.int .i64 (m : Int)) (.slice (some ⟨bx, 0, none⟩) m 128) (by kernel_rfl) (by kernel_rfl) (by kernel_rfl) (by kernel_rfl) (by kernel_rfl) (by kernel_rfl) (fun wx ρ hwx h0 h1 hc => arr_to rfl hm128 ρ wx h0 h1) ?_
  refine wpL_convK (.slice (some ⟨bx, 0, none⟩) m 128) (.string (strB (x.take m))) rfl (by kernel_rfl) (by kernel_rfl) (by kernel_rfl) (by kernel_rfl) (fun wx hwx => given_str (given_take (GX6.out.later hwx) m hm128)) ?_
  refine wpL_fnT (tyR FlaM.blank) [.int .u8 255] rfl rfl (by kernel_rfl) (by kernel_rfl) (by kernel_rfl) (by kernel_rfl) (fun _ _ => by simp [go_sem]) (fun wx hwx => PG.out wx) ?_
  refine wpL_move (.int .i64 (m : Int)) rfl (by kernel_rfl) (by kernel_rfl) (by kernel_rfl) (by kernel_rfl) ?_
  refine wpL_seeT (t := 51) (R := tyR FlaM.blank) (tyR (FlaM.blank.drop m)) rfl rfl (by simp [Op.operands]) (by kernel_rfl) (by kernel_rfl) (by kernel_rfl) (by kernel_rfl) (fun u wx hwx hu ρ h0 hk => cut_tyR rfl (by rw [blank_len]; exact hm128) hu ρ h0 ((hk (.tmp 52) (by kernel_rfl)).trans rfl)) ?_
  refine wpL_conv (.string (strB (FlaM.blank.drop m))) rfl rfl (by kernel_rfl) (by kernel_rfl) (fun u wx hwx hu => tyG_str hu) ?_
  refine wpL_run2 (x := .tmp 50) (y := .tmp 54) (.string (strB (x.take m))) (.string (strB (FlaM.blank.drop m))) (.string (strB y)) (by kernel_rfl) (by kernel_rfl) (by kernel_rfl) (by kernel_rfl) (by kernel_rfl) (by kernel_rfl) (fun wx ρ hwx h0 h1 hc => by simp [go_sem, h0, h1, hc, HY.out, strB_app]; exact HSZ.out) ?_
  refine wpL_run2 (x := .tmp 47) (y := .tmp 55) (.string (strB y)) (.string (strB y)) (.bool false) (by kernel_rfl) (by kernel_rfl) (by kernel_rfl) (by kernel_rfl) (by kernel_rfl) (by kernel_rfl) (fun wx ρ hwx h0 h1 hc => by simp [go_sem, h0, h1, hc]) ?_
  refine wpL_run2 (x := .tmp 45) (y := .tmp 56) (.bool false) (.bool false) (.bool false) (by kernel_rfl) (by kernel_rfl) (by kernel_rfl) (by kernel_rfl) (by kernel_rfl) (by kernel_rfl) (fun wx ρ hwx h0 h1 hc => by simp [go_sem, h0, h1]) ?_
  refine wpL_end (by kernel_rfl) (fun w7 hw7 => ?_)
  simp only [FinL, setL, List.set_cons_zero, List.set_cons_succ]
  intro u53 _ u51 _
  have H7 := Lib.hid ((H6.out.later hw7).drop 1)
  clear hw7 H6 GB GX6
  have ER1 : Hid (Calls Try.prog 17 #[ptr p, .int .i64 1] w7 fun e w' => e = .returned (.int .i64 0) ∧ Own.St w1.heap.size w1 w' [K.A p s3]) := by
    have h := K.erase 1 (WB.out _ H7.out.below) H7.out ON2.out.ok (by omega) (by decide)
    rw [E4.out] at h
    exact h
  go_wp2_with (fail)
  refine ER1.out.mono ?_
  rintro e w8 ⟨rfl, h8⟩
  have H8 := Lib.hid h8
  clear h8 ER1 H7
  go_wp2
  go_loopw [60] (fun v wr => ∃ (j : Nat) (s : FS), j ≤ 3 ∧ v = .int .i64 (j : Int) ∧ Own.St w1.heap.size w1 wr [K.A p s] ∧ On3 s (2 + j) ∧ ∀ k : Nat, now s 1 k = if k < j then List.replicate 128 (UInt8.ofNat k) else FlaM.blank) (fun v _ => 3 - (intOf v).toNat)
  case atStart => exact ⟨0, s3, Nat.zero_le _, rfl, H8.out, ON3.out, fun k => by rw [if_neg (Nat.not_lt_zero _)]; exact N3.out k⟩
  case round =>
    obtain ⟨j, s, hj, rfl, hH, hon, hnow⟩ := hrel
    have H := Lib.hid hH
    have ON := Lib.hid hon
    have NOW := Lib.hid hnow
    clear hH hon hnow H8 ON3 N3
    by_cases hji : (j : Int) < 3
    · have hj3 : j < 3 := by omega
      have hj256 : (j : Int) % 256 = (j : Int) := by omega
      obtain ⟨q1, q2, _, _, q5⟩ := prog_step ON.out (i := 1) (k := j) (by decide) hj3 (List.replicate 128 (UInt8.ofNat j)) List.length_replicate (by rw [NOW.out, if_neg (Nat.lt_irrefl _)])
      obtain ⟨s', hs'⟩ : ∃ s', s' = (progF s ((1 : Nat) : Int) (j : Int) (List.replicate 128 (UInt8.ofNat j))).1 := ⟨_, rfl⟩
      have EP : Hid (progF s 1 (j : Int) (List.replicate 128 (UInt8.ofNat j)) = (s', 0)) := by show _ = _; rw [hs']; exact Prod.ext rfl q1
      rw [← hs'] at q2 q5
      have ON' := Lib.hid q2
      have NOW' : Hid (∀ k : Nat, now s' 1 k = if k < j + 1 then List.replicate 128 (UInt8.ofNat k) else FlaM.blank) := by
        intro k
        rw [q5, NOW.out]
        by_cases e : j = k
        · subst e
          rw [if_pos ⟨rfl, rfl⟩, if_pos (Nat.lt_succ_self _)]
        · rw [if_neg (fun h => e h.2)]
          by_cases h : k < j
          · rw [if_pos h, if_pos (show k < j + 1 by omega)]
          · rw [if_neg h, if_neg (show ¬ k < j + 1 by omega)]
      have PJ : Hid (Calls Try.prog 19 #[.int .u8 (j : Int)] wr fun e w' => ∃ g, e = .returned (.slice (some ⟨g, 0, none⟩) 128 128) ∧ Own.St w1.heap.size w1 w' [AB (some ⟨g, 0, none⟩) 128 128 (List.replicate 128 (UInt8.ofNat j)), K.A p s]) := by
        have h := page_any (UInt8.ofNat j) H.out
        have e : ((UInt8.ofNat j).toNat : Int) = (j : Int) := by rw [UInt8.toNat_ofNat']; omega
        rw [e] at h
        exact h
      clear q1 q2 q5 hs'
      go_wp2_with (fail)
      refine PJ.out.mono ?_
      rintro e w9 ⟨g, rfl, h9⟩
      have H9 := Lib.hid h9.swap2
      clear h9 PJ H
      have PRJ : Hid (Calls Try.prog 18 #[ptr p, .int .i64 1, .int .i64 (j : Int), .slice (some ⟨g, 0, none⟩) 128 128] w9 fun e w' => e = .returned (.int .i64 0) ∧ Own.St w1.heap.size w1 w' [K.A p s']) := by
        have h := K.program 1 (j : Int) (some ⟨g, 0, none⟩) 128 128 (List.replicate 128 (UInt8.ofNat j)) (WB.out _ H9.out.below) H9.out ON.out.ok (by omega) (by decide) ⟨by omega, by omega⟩ ⟨given_own H9.out 1 rfl, .inl ⟨0, rfl⟩⟩ (by omega)
        rw [EP.out] at h
        refine h.mono ?_
        rintro e w' ⟨he, h'⟩
        exact ⟨he, h'.drop2⟩
      go_wp2_with (fail)
      refine PRJ.out.mono ?_
      rintro e w10 ⟨rfl, h10⟩
      have H10 := Lib.hid h10
      clear h10 PRJ H9
      go_wp2
      go_roundw
      case rel => exact ⟨j + 1, s', by omega, by go_num, H10.out, ON'.out, NOW'.out⟩
      case measure => simp [intOf]; omega
    · have hj3 : j = 3 := by omega
      obtain ⟨q1, q2, q3, q4⟩ := barrier_step ON.out
      obtain ⟨s5, hs5⟩ : ∃ s', s' = (barrier s).1 := ⟨_, rfl⟩
      have EB : Hid (barrier s = (s5, 0)) := by show _ = _; rw [hs5]; exact Prod.ext rfl q1
      rw [← hs5] at q2 q3 q4
      obtain ⟨t1, t2, t3, t4, _⟩ := erase_step q2 (i := 1) (by decide)
      obtain ⟨s6, hs6⟩ : ∃ s', s' = (erase s5 ((1 : Nat) : Int)).1 := ⟨_, rfl⟩
      have EE : Hid (erase s5 1 = (s6, 0)) := by show _ = _; rw [hs6]; exact Prod.ext rfl t1
      rw [← hs6] at t2 t3 t4
      rw [q3] at t3
      obtain ⟨r1, _, r3⟩ := crash_one t2 f0 _ t3
      obtain ⟨s7, hs7⟩ : ∃ s', s' = crash s6 [f0] := ⟨_, rfl⟩
      rw [← hs7] at r1 r3
      have EC : Hid (crash s6 [f0] = s7) := hs7.symm
      have ON5 := Lib.hid q2
      have ON6 := Lib.hid t2
      have ON7 := Lib.hid r1
      have NOW7 : Hid (∀ k : Nat, k < 3 → FlaM.read s7 1 (k : Int) = (if (k : Int) < f0 then FlaM.blank else List.replicate 128 (UInt8.ofNat k), 0)) := by
        intro k hk
        have h := read_on r1 (i := 1) (k := k) (by decide) hk
        have e : pageAt s6.safe 1 k = List.replicate 128 (UInt8.ofNat k) := by
          rw [t4, ← now_quiet q3, q4 1 k (by decide) hk, NOW.out, if_pos (by omega)]
        rw [r3, torn_seg t2 f0 k hk, e] at h
        exact h
      clear q1 q2 q3 q4 t1 t2 t3 t4 r1 r3 hs5 hs6 hs7 hj3
      have BA : Hid (Calls Try.prog 25 #[ptr p] wr fun e w' => e = .returned (.int .i64 0) ∧ Own.St w1.heap.size w1 w' [K.A p s5]) := by
        have h := K.barrier (WB.out _ H.out.below) H.out ON.out.ok (by omega)
        rw [EB.out] at h
        exact h
      go_wp2_with (fail)
      refine BA.out.mono ?_
      rintro e w11 ⟨rfl, h11⟩
      have H11 := Lib.hid h11
      clear h11 BA H
      have ER : Hid (Calls Try.prog 17 #[ptr p, .int .i64 1] w11 fun e w' => e = .returned (.int .i64 0) ∧ Own.St w1.heap.size w1 w' [K.A p s6]) := by
        have h := K.erase 1 (WB.out _ H11.out.below) H11.out ON5.out.ok (by omega) (by decide)
        rw [EE.out] at h
        exact h
      go_wp2_with (fail)
      refine ER.out.mono ?_
      rintro e w12 ⟨rfl, h12⟩
      have H12 := Lib.hid h12
      have h4b := (h12.boxV 3 [.int .i64 f0]).swap2
      have CR : Hid (Calls Try.prog 16 #[ptr p, .slice (some ⟨w12.heap.size, 0, none⟩) 1 1] (w12.alloc (.cells #[.int .i64 f0] 3)) fun e w' => e = .returned (.tuple #[]) ∧ Own.St w1.heap.size w1 w' [K.A p s7]) := by
        have h := K.crash (some ⟨w12.heap.size, 0, none⟩) 1 1 [f0] (WB.out _ h4b.below) h4b ON6.out.ok (by omega) ⟨rfl, ⟨by omega, by decide⟩, (by intro e; cases e), IJ.out, .inl ⟨0, _, rfl, rfl⟩⟩
        rw [EC.out] at h
        refine h.mono ?_
        rintro e w' ⟨he, h'⟩
        exact ⟨he, h'.drop2⟩
      clear h12 h4b H11 ER
      go_wp2_with (fail)
      refine CR.out.mono ?_
      rintro e w13 ⟨rfl, h13⟩
      have H13 := Lib.hid h13
      clear h13 CR H12
      go_wp2
      go_loopw [83] (fun v wx => ∃ t : Nat, t ≤ 3 ∧ v = .int .i64 (t : Int) ∧ Own.St w1.heap.size w1 wx [K.A p s7]) (fun v _ => 3 - (intOf v).toNat)
      case atStart => exact ⟨0, Nat.zero_le _, rfl, H13.out⟩
      case round =>
        obtain ⟨t, ht, rfl, hG⟩ := hrel
        have G := Lib.hid hG
        clear hG H13
        by_cases hti : (t : Int) < 3
        · have ht3 : t < 3 := by omega
          have ht256 : (t : Int) % 256 = (t : Int) := by omega
          obtain ⟨pg, hpg⟩ : ∃ l, l = List.replicate 128 (UInt8.ofNat t) := ⟨_, rfl⟩
          obtain ⟨z, hz⟩ : ∃ z, z = if (t : Int) < f0 then FlaM.blank else pg := ⟨_, rfl⟩
          have hzl : z.length = 128 := by rw [hz, hpg]; split <;> simp [blank_len]
          have RD : Hid (Calls Try.prog 23 #[ptr p, .int .i64 1, .int .i64 (t : Int)] wr fun e w' => ∃ ao cap, e = .returned (.tuple #[.slice ao 128 cap, .int .i64 0]) ∧ Own.St w1.heap.size w1 w' [AB ao 128 cap z, K.A p s7]) := by
            have h := K.read 1 (t : Int) (WB.out _ G.out.below) G.out ON7.out.ok (by omega) (by decide) ⟨by omega, by omega⟩
            rw [NOW7.out t ht3, ← hpg, ← hz] at h
            rw [← hzl]
            exact h
          have PT : Hid (∀ wx Ps, Own.St w1.heap.size w1 wx Ps → Calls Try.prog 19 #[.int .u8 (t : Int)] wx fun e w' => ∃ g, e = .returned (.slice (some ⟨g, 0, none⟩) 128 128) ∧ Own.St w1.heap.size w1 w' (AB (some ⟨g, 0, none⟩) 128 128 pg :: Ps)) := by
            intro wx Ps hwx
            have h := page_any (UInt8.ofNat t) hwx
            have e : ((UInt8.ofNat t).toNat : Int) = (t : Int) := by rw [UInt8.toNat_ofNat']; omega
            rw [e, ← hpg] at h
            exact h
          have PB : Hid (∀ wx Ps, Own.St w1.heap.size w1 wx Ps → Calls Try.prog 19 #[.int .u8 255] wx fun e w' => ∃ g, e = .returned (.slice (some ⟨g, 0, none⟩) 128 128) ∧ Own.St w1.heap.size w1 w' (AB (some ⟨g, 0, none⟩) 128 128 FlaM.blank :: Ps)) := fun wx Ps hwx => page_any 255 hwx
          clear hpg hzl
          go_wp2_with (fail)
          refine RD.out.mono ?_
          rintro e w14 ⟨az, cz, rfl, h14⟩
          have H14 := Lib.hid h14
          clear h14 RD G
          go_wp2_with (fail)
          refine (PT.out w14 _ H14.out).mono ?_
          rintro e w15 ⟨g, rfl, h15⟩
          have H15 := Lib.hid h15
          clear h15 PT H14
          by_cases hlt : (t : Int) < f0
          · rw [if_pos hlt] at hz
            subst hz
            go_wp2_with (fail)
            refine (PB.out w15 _ H15.out).mono ?_
            rintro e w16 ⟨g2, rfl, h16⟩
            have G1 := Lib.hid (given_own h16 2 rfl)
            have G2 := Lib.hid (given_own h16 0 rfl)
            have H16 := Lib.hid (h16.drop 3)
            clear h16 H15 PB
            go_wp2_with (first
              | (refine wpList_str8 rfl (.tmp 102) rfl az 128 cz rfl _ _ G1.out.view G1.out.size ?_)
              | (refine wpList_str8 rfl (.tmp 104) rfl (some ⟨g2, 0, none⟩) 128 128 rfl _ _ G2.out.view G2.out.size ?_))
            go_roundw
            case rel => exact ⟨t + 1, by omega, by go_num, H16.out⟩
            case measure => simp [intOf]; omega
          · rw [if_neg hlt] at hz
            subst hz
            have G1 := Lib.hid (given_own H15.out 1 rfl)
            have G2 := Lib.hid (given_own H15.out 0 rfl)
            have H16 := Lib.hid (H15.out.drop 2)
            clear H15 PB
            go_wp2_with (first
              | (refine wpList_str8 rfl (.tmp 102) rfl az 128 cz rfl _ _ G1.out.view G1.out.size ?_)
              | (refine wpList_str8 rfl (.tmp 104) rfl (some ⟨g, 0, none⟩) 128 128 rfl _ _ G2.out.view G2.out.size ?_))
            go_roundw
            case rel => exact ⟨t + 1, by omega, by go_num, H16.out⟩
            case measure => simp [intOf]; omega
        · go_wp2
          go_ret
          exact ⟨rfl, WB.out _ G.out.below⟩
theorem walk_torn2 (vs0 : Array Value) (x : List UInt8) {w : World} (w0 : inBytesA 128 x w.heap.size w vs0.toList) (f0 : Int) (wf : (Lit.int .i64 f0).wf = true) (K : Kept w) :
    Calls Try.prog 6 #[.agg vs0, .int .i64 f0] w (RetYes w) := by
  obtain ⟨h1, h2⟩ := w0
  obtain rfl : vs0 = (x.map byteV).toArray := by rw [← h1]
  exact walk_torn x h2 f0 (wf64 wf) K
end Fla
end Go.Proofs.Ytepllhfofhehaaa
