/- A law's loop over acts: the act of the round in a block of its own; FlashCuts. -/
import Derived.Test.YtepllhfofhehaaaFlaC
import Derived.Test.YtepllhfofhehaaaFlaS
namespace Go.Proofs.Ytepllhfofhehaaa
open Go.RowKit Go.Own
namespace Fla
open Go.FlaM Byt

abbrev zeroAct : List Value := [.int .u8 0, .int .i64 0, .int .i64 0, .int .u8 0, .slice none 0 0, .int .i64 0, .slice none 0 0]
/-- the round's act: what is there of it, and its copy -/
structure RoundAct (B : Nat) (w0 wr : World) (Ps : List Asn) (b o : Nat) (a : ActD) (ab af : Option Addr) (cb cf : Nat) (vs : List Value) : Prop where
  vs_ : vs = actVs a (.slice ab a.b.length cb) (.slice af a.fates.length cf)
  range : wr.rangeAt b o vs
  there : (wr.alloc (.cells zeroAct.toArray 35)).there wr.heap.size 0 vs.toArray.size
  st : Own.St B w0 ((wr.alloc (.cells zeroAct.toArray 35)).setCells wr.heap.size 0 vs.toArray.toList) (AVals wr.heap.size 35 vs :: Ps)
  inn : ∀ wx, Below B w0 wx → B ≤ wx.heap.size → inAct a B wx (actVs a (.slice ab a.b.length cb) (.slice af a.fates.length cf))
  info : (Try.prog.info? 35).map (·.size) = some vs.length
  info2 : (Try.prog.info? 35).map (·.size) = some vs.toArray.size
  one : vs.toArray.all (·.oneCell') = true
  len : vs.length = 7
theorem round_act {B : Nat} {w0 wr : World} {Ps : List Asn} {b o : Nat} {a : ActD} (H : Own.St B w0 wr Ps) (h : ActAt wr B b o a) : ∃ ab af cb cf vs, RoundAct B w0 wr Ps b o a ab af cb cf vs := by
  obtain ⟨ab, cb, af, cf, c0, c1, c2, c3, c4, c5, c6, hin⟩ := h.cells
  have hl : (actVs a (.slice ab a.b.length cb) (.slice af a.fates.length cf)).length = 7 := rfl
  have hi : (Try.prog.info? 35).map (·.size) = some 7 := by kernel_rfl
  have hz := H.boxV 35 zeroAct
  refine ⟨ab, af, cb, cf, _, rfl, ?_, ?_, ?_, ?_, hi, hi, all_oneCell_toArray (fun v hv => by simp only [List.mem_cons, List.not_mem_nil, or_false] at hv; rcases hv with rfl | rfl | rfl | rfl | rfl | rfl | rfl <;> rfl), hl⟩
  · intro j v hv
    match j, hv with
    | 0, hv => cases hv; rw [Nat.add_zero]; exact c0
    | 1, hv => cases hv; exact c1
    | 2, hv => cases hv; exact c2
    | 3, hv => cases hv; exact c3
    | 4, hv => cases hv; exact c4
    | 5, hv => cases hv; exact c5
    | 6, hv => cases hv; exact c6
  · exact hz.thereV 0 rfl (Nat.le_refl 7)
  · have := Own.St.setAll 0 (actVs a (.slice ab a.b.length cb) (.slice af a.fates.length cf)) 0 _ _ zeroAct hz rfl rfl
    simpa using this
  · intro wx hwx hsz
    obtain ⟨i1, i2, i3, i4, i5, i6⟩ := actIn_of hin
    exact ⟨ab, cb, af, cf, rfl, View.same i1 (Go.Own.Below.both H.below hwx), i2, i3, i4, IView.same' i5 (Go.Own.Below.both H.below hwx) hsz, i6⟩
theorem new44 {w : World} (K : Kept w) (wx : World) (H : Own.St w.heap.size w wx []) : Calls Try.prog 12 #[.int .i64 4, .int .i64 4] wx fun e w' => ∃ p, e = .returned (.tuple #[ptr p, .int .i64 0]) ∧ Own.St w.heap.size w w' [K.A p (fresh 4 4)] := by
  refine (K.new 4 4 H.below H (by decide) (by decide)).mono ?_
  intro e w' h
  rw [if_pos (by decide)] at h
  exact h
theorem ok44 : Ok (fresh 4 4) 0 := ok_fresh 4 4 (by decide) (by decide)

set_option maxRecDepth 4000 in
set_option maxHeartbeats 8000000 in
theorem walk_cuts (a0 : Option Addr) (len0 cap0 : Nat) (l : List ActD) (n0 : Int) (wn : (Lit.int .u8 n0).wf = true) {w : World} (w0 : inSlice 7 inAct l w.heap.size w [.slice a0 len0 cap0]) (K : Kept w) :
    Calls Try.prog 7 #[.slice a0 len0 cap0, .int .u8 n0] w (RetYes w) := by
  obtain ⟨nc, rfl⟩ := u8_byte wn
  obtain ⟨n, hn⟩ : ∃ n, n = nc.toNat := ⟨_, rfl⟩
  have hnb : n < 256 := by rw [hn]; exact nc.toNat_lt
  rw [← hn]
  obtain ⟨hlen, hcap, hmax, _, hat⟩ := acts_in w0
  have SH := Lib.hid (shown_any K (Below.refl _ _))
  have HF := Lib.hid (few_any w0)
  have HAT := Lib.hid hat
  have HLEN := Lib.hid hlen
  have hmax2 : cap0 ≤ 9223372036854775807 := by unfold maxLen at hmax; omega
  clear hat hlen hn wn w0 hmax
  go_enter Try.func7, Try.ntmps7
  go_wp2_with (fail)
  refine SH.out.mono ?_
  rintro e w1 ⟨rfl, h1⟩
  have H1 := Lib.hid ((Own.St.start w).later h1)
  clear h1
  go_wp2_with (fail)
  refine (new44 K w1 H1.out).mono ?_
  rintro e w2 ⟨p, rfl, h2⟩
  have H2 := Lib.hid h2
  clear h2 H1
  go_wp2_with (fail)
  refine (K.cut (n : Int) H2.out.below H2.out ok44 (by omega) ⟨by omega, by omega⟩).mono ?_
  rintro e w3 ⟨rfl, h3⟩
  have H3 := Lib.hid h3
  clear h3 H2
  go_wp2_with (fail)
  refine (HF.out w3 H3.out.below).mono ?_
  rintro e w4 ⟨k, hk1, hk2, hk3, rfl, rfl⟩
  have HK3 := Lib.hid hk3
  clear hk3
  have C0 : Hid (CutInv (cut (fresh 4 4) (n : Int)) n) := by
    refine .inl ⟨rfl, ?_, Nat.zero_le _⟩
    show max (n : Int) (-1) = (n : Int) - ((0 : Nat) : Int)
    omega
  have O0 := Lib.hid (ok_cut ok44 (n : Int) (by omega))
  go_wp2
  go_loopw [31] (fun v wr => ∃ (i : Nat) (s : FS), i ≤ k ∧ v = .int .i64 (i : Int) ∧ Own.St w.heap.size w wr [K.A p s] ∧ Ok s i ∧ CutInv s n) (fun v _ => k - (intOf v).toNat)
  case atStart => exact ⟨0, _, Nat.zero_le _, rfl, H3.out, O0.out, C0.out⟩
  case round =>
    obtain ⟨i, s, hik, rfl, hH, hok, hci⟩ := hrel
    have H := Lib.hid hH
    have OK := Lib.hid hok
    have CI := Lib.hid hci
    clear hH hok hci H3 C0 O0
    by_cases hi : (i : Int) < (k : Int)
    · have hil : i < l.length := by rw [← HLEN.out]; omega
      obtain ⟨b, o, rfl, hb, hact⟩ := HAT.out (by intro e; rw [e] at hil; simp at hil)
      obtain ⟨a, ha⟩ : ∃ a, a = l[i] := ⟨_, rfl⟩
      have hat1 := hact wr (fun k hk => H.out.below.block k hk) H.out.below.size i hil
      rw [← ha] at hat1
      have hbl : a.b.length ≤ 10000 := by rw [ha]; exact HK3.out i hil (by omega)
      obtain ⟨ab, af, cb, cf, vs, RA0⟩ := round_act H.out hat1
      have RA := Lib.hid RA0
      obtain ⟨bb, hbb⟩ : ∃ bb, bb = wr.heap.size := ⟨_, rfl⟩
      obtain ⟨w5, hw5⟩ : ∃ w5, w5 = (wr.alloc (.cells zeroAct.toArray 35)).setCells wr.heap.size 0 vs := ⟨_, rfl⟩
      have hst := RA.out.st
      rw [List.toList_toArray] at hst
      rw [← hw5, ← hbb] at hst
      have H5 := Lib.hid hst.swap2
      have hsz5 : wr.heap.size ≤ w5.heap.size := by
        have := lt_of_block (hst.rowV 0 rfl)
        omega
      have hcl : ∀ j v, vs[j]? = some v → ∀ wx, Below w5.heap.size w5 wx → wx.cell? ⟨bb, j, none⟩ = some v := fun j v hv wx hwx => cellLater (hst.cellV 0 rfl j hv).1 hwx
      have c0 := hcl 0 (.int .u8 (a.kind.toNat : Int)) (by rw [RA.out.vs_]; rfl) w5 (Below.refl _ _)
      have C1 := Lib.hid (hcl 1 (.int .i64 a.seg) (by rw [RA.out.vs_]; rfl))
      have LD := Lib.hid (fun wx (hwx : Below w5.heap.size w5 wx) (ρ : Operand → Value) (o : Oper) (x : Tmp) (ho : o.op = .load 35 (.tmp x)) (h0 : ρ (.tmp x) = .pointer (some ⟨bb, 0, none⟩)) => load_actV ho RA.out.len (hst.rowV 0 rfl) hwx ρ h0)
      obtain ⟨r, hr⟩ : ∃ r, r = a.kind.toNat % 6 := ⟨_, rfl⟩
      have hri : (a.kind.toNat : Int) % 6 = (r : Int) := by omega
      have hr6 : r < 6 := by omega
      have hkb : a.kind.toNat < 256 := a.kind.toNat_lt
      have HR := Lib.hid hr
      have HIN := Lib.hid (RA.out.inn w5 hst.below hst.size)
      obtain ⟨i1, _, _, _, _, _, _, _, i9, _, i11⟩ := actIn_of HIN.out
      have SEG := Lib.hid i9
      have NB := Lib.hid i11
      clear hst hcl hr hact hat1 RA0 ha i1 i9 i11
      rw [hw5, hbb] at c0
      by_cases h2 : (2 : Int) < (r : Int)
      · go_wp2_with (first
          | (refine wpList_load_mid rfl 35 (.tmp 33) rfl b (o + i * 7) rfl vs _ RA.out.range Try.underlying35 rfl RA.out.info ?_)
          | (refine wpList_store_mid rfl 35 (.tmp 9) (.tmp 34) rfl wr.heap.size 0 vs.toArray rfl rfl RA.out.there RA.out.info2 RA.out.one ?_))
        rw [← hw5]
        clear hw5 c0
        go_wp2
        go_roundw
        case rel => exact ⟨i + 1, s, by omega, by go_num, H5.out.drop2, OK.out.more (by omega), CI.out⟩
        case measure => simp [intOf]; omega
      · have hop := op_act s a (by rw [← HR.out]; omega)
        obtain ⟨q1, q2, q3, q4⟩ := cuts_step CI.out hop
        have q5 := wear_same hop (i := a.seg)
        have q6 := ok_act OK.out a NB.out
        obtain ⟨s2, hs2⟩ : ∃ s2, s2 = (doAct s a).1 := ⟨_, rfl⟩
        obtain ⟨er, her⟩ : ∃ er, er = (doAct s a).2 := ⟨_, rfl⟩
        rw [← hs2] at q1 q2 q3 q4 q5 q6
        rw [← her] at q2 q4 q5
        have CI2 := Lib.hid q1
        have OK2 := Lib.hid q6
        have hNb : s.n ≤ 1000 := by have := OK.out.n; omega
        have CD : Hid (∀ wx, Below w5.heap.size w5 wx → Calls Try.prog 27 #[ptr p] wx fun e w' => e = .returned (errV s.n) ∧ Below wx.heap.size wx w') := fun wx hwx => K.done (H5.out.later hwx).below (H5.out.later hwx) OK.out (by omega)
        have CW : Hid (∀ wx, Below w5.heap.size w5 wx → Calls Try.prog 28 #[ptr p, .int .i64 a.seg] wx fun e w' => e = .returned (errV (wearOf s a.seg)) ∧ Below wx.heap.size wx w') := fun wx hwx => K.wear a.seg (H5.out.later hwx).below (H5.out.later hwx) OK.out (by omega) SEG.out
        have DO : Hid (∀ wx, Own.St w.heap.size w wx [K.A p s, AVals bb 35 vs] → w5.heap.size ≤ wx.heap.size → Calls Try.prog 20 #[ptr p, .agg vs.toArray] wx fun e w' => e = .returned (.int .i64 (er : Int)) ∧ Own.St w.heap.size w w' [K.A p s2, AVals bb 35 vs]) := by
          intro wx hwx hsz
          rw [her, hs2, RA.out.vs_]
          have hwx' := hwx
          rw [RA.out.vs_] at hwx'
          exact does_any K a ab af cb cf hwx.below hwx' OK.out (by omega) hbl (RA.out.inn wx hwx.below hwx.size)
        have D2 : Hid (∀ wx, Own.St w.heap.size w wx [K.A p s2, AVals bb 35 vs] → Calls Try.prog 27 #[ptr p] wx fun e w' => e = .returned (.int .i64 (s2.n : Int)) ∧ Below wx.heap.size wx w') := fun wx hwx => K.done hwx.below hwx OK2.out (by omega)
        have E2 : Hid (∀ wx, Own.St w.heap.size w wx [K.A p s2, AVals bb 35 vs] → Calls Try.prog 29 #[ptr p] wx fun e w' => e = .returned (.bool s2.off) ∧ Below wx.heap.size wx w') := fun wx hwx => K.dead hwx.below hwx OK2.out (by omega)
        have W2 : Hid (∀ wx, Own.St w.heap.size w wx [K.A p s2, AVals bb 35 vs] → Calls Try.prog 28 #[ptr p, .int .i64 a.seg] wx fun e w' => e = .returned (errV (wearOf s2 a.seg)) ∧ Below wx.heap.size wx w') := fun wx hwx => K.wear a.seg hwx.below hwx OK2.out (by omega) SEG.out
        have SEGC : Hid (vs[1]? = some (.int .i64 a.seg)) := by rw [RA.out.vs_]; exact rfl
        clear hs2 her hop q1 q6 NB OK
        go_wp2_with (first
          | (refine wpList_load_mid rfl 35 (.tmp 33) rfl b (o + i * 7) rfl vs _ RA.out.range Try.underlying35 rfl RA.out.info ?_)
          | (refine wpList_store_mid rfl 35 (.tmp 9) (.tmp 34) rfl wr.heap.size 0 vs.toArray rfl rfl RA.out.there RA.out.info2 RA.out.one ?_))
        rw [← hw5, ← hbb]
        clear hw5 c0 hbb
        refine wp_lax_list (by kernel_rfl) (by kernel_rfl) (by kernel_rfl) ?_
        refine wpL_move (ptr p) rfl (by kernel_rfl) (by kernel_rfl) (by kernel_rfl) (by kernel_rfl) ?_
        refine wpL_fn (errV s.n) [ptr p] rfl (by kernel_rfl) (by kernel_rfl) (by kernel_rfl) (by kernel_rfl) (fun _ _ => by simp [go_sem]) (fun wx hwx => CD.out wx hwx) ?_
        refine wpL_move (ptr p) rfl (by kernel_rfl) (by kernel_rfl) (by kernel_rfl) (by kernel_rfl) ?_
        refine wpL_run1 (x := .tmp 9) (.pointer (some ⟨bb, 0, none⟩)) (.pointer (some ⟨bb, 1, none⟩)) (by kernel_rfl) (by kernel_rfl) (by kernel_rfl) (by kernel_rfl) (by kernel_rfl) (fun wx ρ hwx h0 hc => by simp [go_sem, h0, hc]) ?_
        refine wpL_run1 (x := .tmp 42) (.pointer (some ⟨bb, 1, none⟩)) (.int .i64 a.seg) (by kernel_rfl) (by kernel_rfl) (by kernel_rfl) (by kernel_rfl) (by kernel_rfl) (fun wx ρ hwx h0 hc => by simp [go_sem, h0, hc, C1.out wx hwx]) ?_
        refine wpL_fn (errV (wearOf s a.seg)) [ptr p, .int .i64 a.seg] rfl (by kernel_rfl) (by kernel_rfl) (by kernel_rfl) (by kernel_rfl) (fun _ _ => by simp [go_sem]) (fun wx hwx => CW.out wx hwx) ?_
        refine wpL_assign (errV s.n) rfl (by kernel_rfl) (by kernel_rfl) (by kernel_rfl) (by kernel_rfl) ?_
        refine wpL_assign (errV (wearOf s a.seg)) rfl (by kernel_rfl) (by kernel_rfl) (by kernel_rfl) (by kernel_rfl) ?_
        refine wpL_end (by kernel_rfl) (fun w6 hw6 => ?_)
        simp only [FinL, setL, List.set_cons_zero, List.set_cons_succ]
        have H6 := Lib.hid (H5.out.later hw6)
        have L6 := Lib.hid (fun (ρ : Operand → Value) (o : Oper) (x : Tmp) (ho : o.op = .load 35 (.tmp x)) (h0 : ρ (.tmp x) = .pointer (some ⟨bb, 0, none⟩)) => LD.out w6 hw6 ρ o x ho h0)
        have hs6 := hw6.size
        clear hw6 CD CW C1 LD H5
        go_wp2_with (refine Byt.wpList_val rfl (L6.out _ _ _ rfl rfl) ?_)
        refine (DO.out w6 H6.out hs6).mono ?_
        rintro e w7 ⟨rfl, h7⟩
        have H7 := Lib.hid h7
        have d7 := (H7.out.cellV 1 rfl 1 SEGC.out).1
        clear h7 H6 L6 DO
        by_cases he0 : er = 0
        · have hn1 := q2.1 he0
          have f1 : ((er : Int) == 0) = true := by simp [he0]
          have f2 : ((s2.n : Int) == (s.n : Int) + 1) = true := by simp; omega
          have f3 : ¬ n < s2.n := by omega
          have f4 : ((er : Int) == 6) = false := by simp [he0]
          clear q2 q4 q5 hn1
          go_wp2_with (fail)
          refine (D2.out w7 H7.out).mono ?_
          rintro e w8 ⟨rfl, h8⟩
          have H8 := Lib.hid (H7.out.later h8)
          have d8 := (H8.out.cellV 1 rfl 1 SEGC.out).1
          clear h8 H7 d7
          go_wp2_with (fail)
          refine (D2.out w8 H8.out).mono ?_
          rintro e w9 ⟨rfl, h9⟩
          have H9 := Lib.hid (H8.out.later h9)
          have d9 := (H9.out.cellV 1 rfl 1 SEGC.out).1
          clear h9 H8 d8
          go_wp2
          go_roundw
          case rel => exact ⟨i + 1, s2, by omega, by go_num, H9.out.drop2, OK2.out, CI2.out⟩
          case measure => simp [intOf]; omega
        · have hn1 : s2.n ≠ s.n + 1 := fun h => he0 (q2.2 h)
          have hw2 := q5 he0
          have f1 : ((er : Int) == 0) = false := by simp; omega
          have f2 : ((s2.n : Int) == (s.n : Int) + 1) = false := by simp; omega
          have f3 : ¬ n < s2.n := by omega
          rw [hw2] at W2
          by_cases he6 : er = 6
          · obtain ⟨hn2, ho2⟩ := q4 he6
            have f4 : ((er : Int) == 6) = true := by simp [he6]
            have f5 : ((s2.n : Int) == (n : Int)) = true := by simp; omega
            have f6 : s2.off = true := ho2
            have f7 : ((n : Int) == (s.n : Int) + 1) = false := by simp; omega
            have f8 : ¬ n < n := by omega
            clear q2 q4 q5 hn1 hw2 ho2
            go_wp2_with (fail)
            refine (D2.out w7 H7.out).mono ?_
            rintro e w8 ⟨rfl, h8⟩
            have H8 := Lib.hid (H7.out.later h8)
            have d8 := (H8.out.cellV 1 rfl 1 SEGC.out).1
            clear h8 H7 d7
            go_wp2_with (fail)
            refine (D2.out w8 H8.out).mono ?_
            rintro e w9 ⟨rfl, h9⟩
            have H9 := Lib.hid (H8.out.later h9)
            have d9 := (H9.out.cellV 1 rfl 1 SEGC.out).1
            clear h9 H8 d8
            go_wp2_with (fail)
            refine (D2.out w9 H9.out).mono ?_
            rintro e w10 ⟨rfl, h10⟩
            have H10 := Lib.hid (H9.out.later h10)
            have d10 := (H10.out.cellV 1 rfl 1 SEGC.out).1
            clear h10 H9 d9
            go_wp2_with (fail)
            refine (E2.out w10 H10.out).mono ?_
            rintro e w11 ⟨rfl, h11⟩
            have H11 := Lib.hid (H10.out.later h11)
            have d11 := (H11.out.cellV 1 rfl 1 SEGC.out).1
            clear h11 H10 d10
            go_wp2_with (fail)
            refine (W2.out w11 H11.out).mono ?_
            rintro e w12 ⟨rfl, h12⟩
            have H12 := Lib.hid (H11.out.later h12)
            have d12 := (H12.out.cellV 1 rfl 1 SEGC.out).1
            clear h12 H11 d11
            go_wp2
            go_roundw
            case rel => exact ⟨i + 1, s2, by omega, by go_num, H12.out.drop2, OK2.out, CI2.out⟩
            case measure => simp [intOf]; omega
          · have f4 : ((er : Int) == 6) = false := by simp; omega
            clear q2 q4 q5 hn1 hw2
            go_wp2_with (fail)
            refine (D2.out w7 H7.out).mono ?_
            rintro e w8 ⟨rfl, h8⟩
            have H8 := Lib.hid (H7.out.later h8)
            have d8 := (H8.out.cellV 1 rfl 1 SEGC.out).1
            clear h8 H7 d7
            go_wp2_with (fail)
            refine (D2.out w8 H8.out).mono ?_
            rintro e w9 ⟨rfl, h9⟩
            have H9 := Lib.hid (H8.out.later h9)
            have d9 := (H9.out.cellV 1 rfl 1 SEGC.out).1
            clear h9 H8 d8
            go_wp2_with (fail)
            refine (W2.out w9 H9.out).mono ?_
            rintro e w10 ⟨rfl, h10⟩
            have H10 := Lib.hid (H9.out.later h10)
            have d10 := (H10.out.cellV 1 rfl 1 SEGC.out).1
            clear h10 H9 d9
            go_wp2
            go_roundw
            case rel => exact ⟨i + 1, s2, by omega, by go_num, H10.out.drop2, OK2.out, CI2.out⟩
            case measure => simp [intOf]; omega
    · go_wp2
      go_ret
      exact ⟨rfl, H.out.below⟩
end Fla
end Go.Proofs.Ytepllhfofhehaaa
