/- FlashOnce: the walk. -/
import Derived.Test.YtepllhfofhehaaaLaxG
import Derived.Test.YtepllhfofhehaaaMapV
import Derived.Test.YtepllhfofhehaaaFlaG
import Derived.Test.YtepllhfofhehaaaFlaK
import Derived.Test.YtepllhfofhehaaaFlaE
import Derived.Test.YtepllhfofhehaaaFlaRc
import Derived.Test.YtepllhfofhehaaaLawFlaC
namespace Go.Proofs.Ytepllhfofhehaaa
open Go.RowKit Go.Own Go.Maps
namespace Fla
open Go.FlaM Byt

/-! ### the key -/
theorem pairArr : WideMaps.ArrKey Try.prog 46 3 2 := ⟨Try.underlying46, by kernel_rfl, by kernel_rfl, by kernel_rfl⟩
theorem pairKeyed : Keyed Try.prog 46 := Keyed.of_law pairArr.law
theorem typesPos : ∃ m, Try.prog.types.size = m + 1 := ⟨Try.prog.types.size - 1, by kernel_rfl⟩
def prV (a b : Int) : Value := .agg #[.int .i64 a, .int .i64 b]
def prL (a b : Int) : Lit := .string (keyBytes [.int .i64 a, .int .i64 b])
theorem wf_i64 {a : Int} (h : i64B a) : (Lit.int .i64 a).wf = true := by
  simp [Lit.wf, IntKind.min, IntKind.max, IntKind.signed, IntKind.bits]
  unfold i64B at h
  omega
theorem pr_key {a b : Int} (ha : i64B a) (hb : i64B b) : keyOf Try.prog 46 (prV a b) = some (prL a b) := by
  have A := pairArr
  have he : Try.prog.underlying 3 = some (.int .i64) := Try.underlying3
  have hkt := A.keyType typesPos
  obtain ⟨m, hm⟩ := typesPos
  have wa := wf_i64 ha
  have wb := wf_i64 hb
  unfold keyOf prV
  simp only [A.hu]
  rw [if_pos (by simp [hkt, Value.formed, A.hu, A.size]), hm]
  unfold Program.keyLits
  simp only [A.hu, Value.cells]
  rw [if_pos (by rw [A.size]; rfl), show List.range 2 = [0, 1] from rfl, List.mapM_cons, List.mapM_cons, List.mapM_nil]
  simp [A.one, Program.keyLits, he, wa, wb, prL]
theorem prL_inj {a b a' b' : Int} (ha : i64B a) (hb : i64B b) (ha' : i64B a') (hb' : i64B b') (h : prL a b = prL a' b') : a = a' ∧ b = b' := by
  have h1 := pr_key ha hb
  rw [h] at h1
  have := pairKeyed.inj h1 (pr_key ha' hb')
  simp only [prV, Value.agg.injEq, Array.mk.injEq, List.cons.injEq, Value.int.injEq, and_true, true_and] at this
  exact this
theorem small64 {n : Nat} (h : n < 4) : i64B (n : Int) := ⟨by omega, by omega⟩
abbrev HadM (b n : Nat) (g : Lit → Value) : Asn := AMap Try.prog 46 (.bool false) b n g
/-- what is marked has been programmed -/
def HadI (s : FS) (g : Lit → Value) : Prop := ∀ i k : Nat, i < 4 → k < 4 → ∃ hb : Bool, g (prL i k) = .bool hb ∧ (hb = true → now s i k ≠ FlaM.blank)
/-- .. while the first m marks of segment sg are taken away -/
def HadE (s : FS) (sg m : Nat) (g : Lit → Value) : Prop := ∀ i k : Nat, i < 4 → k < 4 → ∃ hb : Bool, g (prL i k) = .bool hb ∧ (hb = true → now s i k ≠ FlaM.blank ∧ ¬ (i = sg ∧ k < m))
theorem hadE_zero {s : FS} {sg : Nat} {g : Lit → Value} (h : HadI s g) : HadE s sg 0 g := fun i k hi hk => by
  obtain ⟨hb, h1, h2⟩ := h i k hi hk
  exact ⟨hb, h1, fun e => ⟨h2 e, fun h => by omega⟩⟩
theorem hadE_next {s : FS} {sg m : Nat} {g : Lit → Value} (hs : sg < 4) (hm : m < 4) (h : HadE s sg m g) : HadE s sg (m + 1) (putK g (prL (sg : Int) (m : Int)) (.bool false)) := fun i k hi hk => by
  by_cases e : prL (i : Int) (k : Int) = prL (sg : Int) (m : Int)
  · exact ⟨false, by rw [e, putK_same], fun e => by cases e⟩
  · obtain ⟨hb, h1, h2⟩ := h i k hi hk
    refine ⟨hb, by rw [putK_other e]; exact h1, fun e2 => ⟨(h2 e2).1, fun h3 => (h2 e2).2 ⟨h3.1, ?_⟩⟩⟩
    have : k ≠ m := by
      intro e3
      apply e
      rw [h3.1, e3]
    omega
theorem hadI_put {s : FS} {sg pg : Nat} {g : Lit → Value} (hs : sg < 4) (hp : pg < 4) (v : Bool) (hv : v = true → now s sg pg ≠ FlaM.blank) (h : ∀ i k : Nat, i < 4 → k < 4 → ¬ (i = sg ∧ k = pg) → ∃ hb : Bool, g (prL i k) = .bool hb ∧ (hb = true → now s i k ≠ FlaM.blank)) : HadI s (putK g (prL (sg : Int) (pg : Int)) (.bool v)) := fun i k hi hk => by
  by_cases e : i = sg ∧ k = pg
  · obtain ⟨rfl, rfl⟩ := e
    exact ⟨v, putK_same, hv⟩
  · obtain ⟨hb, h1, h2⟩ := h i k hi hk e
    refine ⟨hb, ?_, h2⟩
    rw [putK_other]
    · exact h1
    · intro e2
      have := prL_inj (small64 hi) (small64 hk) (small64 hs) (small64 hp) e2
      exact e ⟨by omega, by omega⟩

theorem prog_blank (s : FS) (sg pg : Nat) (b : Bs) (h : (progF s (sg : Int) (pg : Int) b).2 = 0) : now s sg pg = FlaM.blank := by
  unfold progF at h
  split at h
  · cases h
  split at h
  · cases h
  split at h
  · cases h
  rename_i hx
  exact Classical.not_not.1 hx

set_option maxRecDepth 6000 in
set_option maxHeartbeats 16000000 in
theorem walk_once (a0 : Option Addr) (len0 cap0 : Nat) (l : List ActD) {w : World} (w0 : inSlice 7 inAct l w.heap.size w [.slice a0 len0 cap0]) (K : Kept w) :
    Calls Try.prog 4 #[.slice a0 len0 cap0] w (RetYes w) := by
  obtain ⟨hlen, hcap, hmax, _, hat⟩ := acts_in w0
  have SH := Lib.hid (shown_any K (Below.refl _ _))
  have HF := Lib.hid (few_any w0)
  have HAT := Lib.hid hat
  have HLEN := Lib.hid hlen
  have hmax2 : cap0 ≤ 9223372036854775807 := by unfold maxLen at hmax; omega
  have PG : Hid (∀ wx, Calls Try.prog 19 #[.int .u8 255] wx fun e w' => ∃ v, e = .returned v ∧ (tyG FlaM.blank).holds v w' ∧ Below wx.heap.size wx w') := fun wx => page_ty 255 wx
  clear hat hlen w0 hmax
  go_enter Try.func4, Try.ntmps4
  go_wp2_with (fail)
  refine SH.out.mono ?_
  rintro e w1 ⟨rfl, h1⟩
  have H1 := Lib.hid ((Own.St.start w).later h1)
  clear h1
  go_wp2_with (fail)
  refine (new44 K w1 H1.out).mono ?_
  rintro e w2 ⟨p, rfl, h2⟩
  obtain ⟨w3, bm, hmk, h3⟩ := h2.mapMake (P := Try.prog) (kt := 46) (mt := 45) (z := .bool false)
  have H3 := Lib.hid h3.swap2
  clear h2 h3 H1
  go_wp2_with (fail)
  clear hmk
  refine (HF.out w3 H3.out.below).mono ?_
  rintro e w4 ⟨k, hk1, hk2, hk3, rfl, rfl⟩
  have HK3 := Lib.hid hk3
  clear hk3
  have I0 : Hid (HadI (fresh 4 4) (fun _ => .bool false)) := fun i k _ _ => ⟨false, rfl, fun e => by cases e⟩
  have O0 := Lib.hid ok44
  have Z0 : Hid (Size (fresh 4 4) 4 4) := ⟨rfl, rfl⟩
  go_wp2
  go_loopw [28] (fun v wr => ∃ (i n : Nat) (s : FS) (g : Lit → Value), i ≤ k ∧ n ≤ 8 * i ∧ v = .int .i64 (i : Int) ∧ Own.St w.heap.size w wr [K.A p s, HadM bm n g] ∧ Ok s i ∧ Size s 4 4 ∧ (s.off = false ∧ s.left = -1) ∧ HadI s g) (fun v _ => k - (intOf v).toNat)
  case atStart => exact ⟨0, 0, _, _, Nat.zero_le _, Nat.le_refl _, rfl, H3.out, O0.out, Z0.out, ⟨rfl, rfl⟩, I0.out⟩
  case round =>
    obtain ⟨i, n, s, g, hik, hn8, rfl, hH, hok, hsz, hon, hhi⟩ := hrel
    have H := Lib.hid hH
    have OK := Lib.hid hok
    have SZ := Lib.hid hsz
    have ON := Lib.hid hon
    have HI := Lib.hid hhi
    clear hH hok hsz hon hhi H3 O0 Z0 I0
    by_cases hi : (i : Int) < (k : Int)
    · have hil : i < l.length := by rw [← HLEN.out]; omega
      obtain ⟨b, o, rfl, hb, hact⟩ := HAT.out (by intro e; rw [e] at hil; simp at hil)
      obtain ⟨a, ha⟩ : ∃ a, a = l[i] := ⟨_, rfl⟩
      have hat1 := hact wr (fun k hk => H.out.below.block k hk) H.out.below.size i hil
      rw [← ha] at hat1
      have hbl : a.b.length ≤ 10000 := by rw [ha]; exact HK3.out i hil (by omega)
      obtain ⟨ab, af, cb, cf, vs, RA0⟩ := round_act H.out hat1
      have RA := Lib.hid RA0
      obtain ⟨bb, hbb⟩ : ∃ bb, bb = wr.heap.size := ⟨_, rfl⟩
      obtain ⟨w5, hw5⟩ : ∃ w5, w5 = (wr.alloc (.cells zeroAct.toArray 35)).setCells wr.heap.size 0 vs := ⟨_, rfl⟩
      have hst := RA.out.st
      rw [List.toList_toArray] at hst
      rw [← hw5, ← hbb] at hst
      have H5 := Lib.hid hst.swap2
      have LD5 : Hid (∀ (ρ : Operand → Value) (o : Oper) (x : Tmp), o.op = .load 35 (.tmp x) → ρ (.tmp x) = .pointer (some ⟨wr.heap.size, 0, none⟩) → (execOp ρ o).run Try.prog ((wr.alloc (.cells zeroAct.toArray 35)).setCells wr.heap.size 0 vs) = .ok (.value (.agg vs.toArray)) ((wr.alloc (.cells zeroAct.toArray 35)).setCells wr.heap.size 0 vs)) := by
        intro ρ o x ho h0
        rw [← hw5]
        rw [← hbb] at h0
        exact load_actV ho RA.out.len (hst.rowV 0 rfl) (Below.refl _ _) ρ h0
      have c0 := (H5.out.cellV 1 rfl 0 (v := .int .u8 (a.kind.toNat : Int)) (by rw [RA.out.vs_]; rfl)).1
      obtain ⟨r, hr⟩ : ∃ r, r = a.kind.toNat % 6 := ⟨_, rfl⟩
      have hri : (a.kind.toNat : Int) % 6 = (r : Int) := by omega
      have hr6 : r < 6 := by omega
      have hkb : a.kind.toNat < 256 := a.kind.toNat_lt
      have HR := Lib.hid hr
      have HIN := Lib.hid (RA.out.inn w5 hst.below hst.size)
      obtain ⟨_, _, _, _, _, _, _, _, _, _, i11⟩ := actIn_of HIN.out
      have NB := Lib.hid i11
      have hk80 : i < 80 := by omega
      clear hst hr hact hat1 RA0 ha i11
      rw [hw5, hbb] at c0
      by_cases h2 : (2 : Int) < (r : Int)
      · go_wp2_with (first
          | (refine wpList_load_mid rfl 35 (.tmp 30) rfl b (o + i * 7) rfl vs _ RA.out.range Try.underlying35 rfl RA.out.info ?_)
          | (refine wpList_store_mid rfl 35 (.tmp 8) (.tmp 31) rfl wr.heap.size 0 vs.toArray rfl rfl RA.out.there RA.out.info2 RA.out.one ?_))
        rw [← hw5]
        clear hw5 c0
        go_wp2
        go_roundw
        case rel => exact ⟨i + 1, n, s, g, by omega, by omega, by go_num, H5.out.drop2, OK.out.more (by omega), SZ.out, ON.out, HI.out⟩
        case measure => simp [intOf]; omega
      · have hk2 : a.kind.toNat % 6 ≤ 2 := by rw [← HR.out]; omega
        have q6 := ok_act OK.out a NB.out
        have q7 := size_act OK.out SZ.out a
        have q8 := on_act a hk2 ON.out
        have hop := op_act s a hk2
        obtain ⟨s2, hs2⟩ : ∃ s2, s2 = (doAct s a).1 := ⟨_, rfl⟩
        obtain ⟨er, her⟩ : ∃ er, er = (doAct s a).2 := ⟨_, rfl⟩
        have SAME : Hid (er ≠ 0 → ∀ i k, now s2 i k = now s i k) := by
          intro he i k
          rw [hs2]
          exact now_same hop (by rw [← her]; exact he) i k
        rw [← hs2] at q6 q7 q8
        have OK2 := Lib.hid q6
        have SZ2 := Lib.hid q7
        have ON2 := Lib.hid q8
        have DO : Hid (Calls Try.prog 20 #[ptr p, .agg vs.toArray] w5 fun e w' => e = .returned (.int .i64 (er : Int)) ∧ Own.St w.heap.size w w' [K.A p s2, AVals bb 35 vs, HadM bm n g]) := by
          rw [her, hs2, RA.out.vs_]
          have hwx' := H5.out
          rw [RA.out.vs_] at hwx'
          exact does_any K a ab af cb cf hwx'.below hwx' OK.out (by omega) hbl HIN.out
        have BY : Hid (∀ wx, Below w.heap.size w wx → w.heap.size ≤ wx.heap.size → a.b.length ≤ 128 → Calls Try.prog 24 #[.agg vs.toArray] wx fun e w' => ∃ v, e = .returned v ∧ (tyG (bytesOf a)).holds v w' ∧ Below wx.heap.size wx w') := by
          intro wx h1 h2 h3
          rw [RA.out.vs_]
          exact bytes_ty a ab af cb cf wx h2 (RA.out.inn wx h1 h2) h3
        have VLEN : Hid (vs.length = 7) := RA.out.len
        have SEGC : Hid (vs[1]? = some (.int .i64 a.seg)) := by rw [RA.out.vs_]; exact rfl
        have PAGEC : Hid (vs[2]? = some (.int .i64 a.page)) := by rw [RA.out.vs_]; exact rfl
        have KINDC : Hid (vs[0]? = some (.int .u8 (a.kind.toNat : Int))) := by rw [RA.out.vs_]; exact rfl
        have HS2 := Lib.hid hs2
        have HER := Lib.hid her
        have HK2 := Lib.hid hk2
        clear q6 q7 q8 hop hs2 her NB hk2
        go_wp2_with (first
          | (refine wpList_load_mid rfl 35 (.tmp 30) rfl b (o + i * 7) rfl vs _ RA.out.range Try.underlying35 rfl RA.out.info ?_)
          | (refine wpList_store_mid rfl 35 (.tmp 8) (.tmp 31) rfl wr.heap.size 0 vs.toArray rfl rfl RA.out.there RA.out.info2 RA.out.one ?_)
          | (refine Byt.wpList_val rfl (LD5.out _ _ _ rfl rfl) ?_))
        rw [← hw5, ← hbb]
        clear hw5 hbb LD5 RA H c0
        refine DO.out.mono ?_
        rintro e w6 ⟨rfl, h6⟩
        have H6 := Lib.hid h6
        clear h6 H5 DO
        by_cases he : er = 0
        · have NOW := Lib.hid (now_act OK.out SZ.out a HK2.out (HER.out.symm.trans he))
          have TH := Lib.hid (act_there SZ.out a (HER.out.symm.trans he))
          have f1 : ((er : Int) == 0) = true := by simp [he]
          have c0 := (H6.out.cellV 1 rfl 0 KINDC.out).1
          have hr012 : r = 0 ∨ r = 1 ∨ r = 2 := by omega
          rcases hr012 with h0 | h0 | h0
          · obtain ⟨sg, pg, hsg, hpg, hsg4, hpg4⟩ := TH.out.1 (HR.out.symm.trans h0)
            have g0 : ((r : Int) == 0) = true := by simp [h0]
            have g1 : ((r : Int) == 1) = false := by simp [h0]
            have HBL := Lib.hid (act_len a (HR.out.symm.trans h0) (HER.out.symm.trans he))
            have hbln : (bytesOf a).length = 128 := by rw [bytesOf_len]; have := HBL.out; omega
            have hblk : now s sg pg = FlaM.blank := by
              have hh := HER.out.symm.trans he
              unfold doAct at hh
              rw [← HR.out, h0, hsg, hpg] at hh
              exact prog_blank s sg pg (bytesOf a) hh
            obtain ⟨hb0, hgb, hgn⟩ := HI.out sg pg hsg4 hpg4
            have hb00 : hb0 = false := by
              cases hb0 with
              | false => rfl
              | true => exact absurd hblk (hgn rfl)
            rw [hb00] at hgb
            have hnow2 : now s2 sg pg = bytesOf a := by
              rw [HS2.out, NOW.out sg pg hsg4 hpg4, if_pos ⟨HR.out.symm.trans h0, hsg, hpg⟩]
            have hrest : ∀ i' k' : Nat, i' < 4 → k' < 4 → ¬ (i' = sg ∧ k' = pg) → now s2 i' k' = now s i' k' := by
              intro i' k' hi' hk' hne
              rw [HS2.out, NOW.out i' k' hi' hk', if_neg (fun h => hne ⟨by have := h.2.1; omega, by have := h.2.2; omega⟩), if_neg (by rw [← HR.out, h0]; omega)]
            obtain ⟨nb, hnb⟩ : ∃ nb, nb = !decide (bytesOf a = FlaM.blank) := ⟨_, rfl⟩
            have HNB : Hid (decide (bytesOf a = FlaM.blank) = !nb) := by show _ = _; rw [hnb]; simp
            have HINEW : Hid (HadI s2 (putK g (prL (sg : Int) (pg : Int)) (.bool nb))) := by
              refine hadI_put hsg4 hpg4 nb (fun e => ?_) (fun i' k' hi' hk' hne => ?_)
              · rw [hnow2]
                intro e2
                rw [hnb] at e
                simp [e2] at e
              · obtain ⟨hb', h1', h2'⟩ := HI.out i' k' hi' hk'
                exact ⟨hb', h1', fun e => by rw [hrest i' k' hi' hk' hne]; exact h2' e⟩
            have hrd : FlaM.read s2 (sg : Int) (pg : Int) = (bytesOf a, 0) := by rw [read_at SZ2.out hsg4 hpg4, ON2.out.1, hnow2]; rfl
            have HRD := Lib.hid hrd
            have hlk : (Instr.lookup 45 (.map (some bm)) (.agg #[.int .i64 (sg : Int), .int .i64 (pg : Int)]) false).run Try.prog w6 = .ok (.bool false) w6 := by
              have h := H6.out.mapLook 2 rfl pairKeyed (mt := 45) Try.underlying45 (fun w => by kernel_rfl) (pr_key (small64 hsg4) (small64 hpg4))
              rw [hgb] at h
              exact h
            have HSG := Lib.hid hsg
            have HPG := Lib.hid hpg
            have c1 := (H6.out.cellV 1 rfl 1 SEGC.out).1
            have c2 := (H6.out.cellV 1 rfl 2 PAGEC.out).1
            rw [hsg] at c1
            rw [hpg] at c2
            have RD := Lib.hid (K.read (sg : Int) (pg : Int) H6.out.below H6.out OK2.out (by omega) (small64 hsg4) (small64 hpg4))
            rw [HRD.out] at RD
            simp only [hbln] at RD
            clear h0 TH hsg hpg hblk hgb hgn hb00 hnow2 hrest hnb hrd NOW SAME HRD hbln
            go_wp2_with (fail)
            clear hlk
            refine RD.out.mono ?_
            clear RD
            rintro e w7 ⟨ar, cr, rfl, h7⟩
            have H7 := Lib.hid h7
            have GB : Hid (Given w7 ar 128 cr (bytesOf a)) := given_own H7.out 0 rfl
            have C1 : Hid (∀ wx, Below w7.heap.size w7 wx → wx.cell? ⟨bb, 1, none⟩ = some (.int .i64 (sg : Int))) := fun wx hwx => by rw [← HSG.out]; exact ((H7.out.later hwx).cellV 2 rfl 1 SEGC.out).1
            have C2 : Hid (∀ wx, Below w7.heap.size w7 wx → wx.cell? ⟨bb, 2, none⟩ = some (.int .i64 (pg : Int))) := fun wx hwx => by rw [← HPG.out]; exact ((H7.out.later hwx).cellV 2 rfl 2 PAGEC.out).1
            have LD8 : Hid (∀ wx, Below w7.heap.size w7 wx → ∀ (ρ : Operand → Value) (o : Oper) (x : Tmp), o.op = .load 35 (.tmp x) → ρ (.tmp x) = .pointer (some ⟨bb, 0, none⟩) → (execOp ρ o).run Try.prog wx = .ok (.value (.agg vs.toArray)) wx) := fun wx hwx ρ o x ho h0 => load_actV ho VLEN.out (Own.St.rowV (H7.out.later hwx) 2 rfl) (Below.refl _ _) ρ h0
            have BY8 : Hid (∀ wx, Below w7.heap.size w7 wx → Calls Try.prog 24 #[.agg vs.toArray] wx fun e w' => ∃ v, e = .returned v ∧ (tyG (bytesOf a)).holds v w' ∧ Below wx.heap.size wx w') := fun wx hwx => BY.out wx (H7.out.later hwx).below (H7.out.later hwx).size HBL.out
            clear h7 H6 c0 c1 c2
            go_wp2_with (fail)
            refine wp_lax_list (by kernel_rfl) (by kernel_rfl) (by kernel_rfl) ?_
            refine wpL_move (.int .i64 0) rfl (by kernel_rfl) (by kernel_rfl) (by kernel_rfl) (by kernel_rfl) ?_
            refine wpL_run1 (x := .tmp 74) (.int .i64 0) (.bool false) (by kernel_rfl) (by kernel_rfl) (by kernel_rfl) (by kernel_rfl) (by kernel_rfl) (fun wx ρ hwx h0 hc => by simp [go_sem, h0, hc]) ?_
            refine wpL_move (.bool false) rfl (by kernel_rfl) (by kernel_rfl) (by kernel_rfl) (by kernel_rfl) ?_
            refine wpL_move (.slice ar 128 cr) rfl (by kernel_rfl) (by kernel_rfl) (by kernel_rfl) (by kernel_rfl) ?_
            refine wpL_convK (.slice ar 128 cr) (strV (bytesOf a)) rfl (by kernel_rfl) (by kernel_rfl) (by kernel_rfl) (by kernel_rfl) (fun wx hwx => given_str (GB.out.later hwx)) ?_
            refine wpL_run1 (x := .tmp 8) (.pointer (some ⟨bb, 0, none⟩)) (.agg vs.toArray) (by kernel_rfl) (by kernel_rfl) (by kernel_rfl) (by kernel_rfl) (by kernel_rfl) (fun wx ρ hwx h0 hc => LD8.out wx hwx ρ _ _ rfl h0) ?_
            refine wpL_fnT (tyG (bytesOf a)) [.agg vs.toArray] rfl rfl (by kernel_rfl) (by kernel_rfl) (by kernel_rfl) (by kernel_rfl) (fun _ _ => by simp [go_sem]) (fun wx hwx => BY8.out wx hwx) ?_
            refine wpL_conv (strV (bytesOf a)) rfl rfl (by kernel_rfl) (by kernel_rfl) (fun u wx hwx hu => tyG_str hu) ?_
            refine wpL_run2 (x := .tmp 78) (y := .tmp 81) (strV (bytesOf a)) (strV (bytesOf a)) (.bool false) (by kernel_rfl) (by kernel_rfl) (by kernel_rfl) (by kernel_rfl) (by kernel_rfl) (by kernel_rfl) (fun wx ρ hwx h0 h1 hc => neq_str rfl _ _ false (by simp) ρ wx h0 h1) ?_
            refine wpL_run2 (x := .tmp 76) (y := .tmp 82) (.bool false) (.bool false) (.bool false) (by kernel_rfl) (by kernel_rfl) (by kernel_rfl) (by kernel_rfl) (by kernel_rfl) (by kernel_rfl) (fun wx ρ hwx h0 h1 hc => by simp [go_sem, h0, h1, hc]) ?_
            refine wpL_end (by kernel_rfl) (fun w8 hw8 => ?_)
            simp only [FinL, setL, List.set_cons_zero, List.set_cons_succ]
            intro u8 _
            have H8 := Lib.hid (H7.out.later hw8)
            have GB8 := Lib.hid (GB.out.later hw8)
            have C18 := Lib.hid (fun wx (hwx : Below w8.heap.size w8 wx) => C1.out wx (hw8.trans (hwx.mono hw8.size)))
            have C28 := Lib.hid (fun wx (hwx : Below w8.heap.size w8 wx) => C2.out wx (hw8.trans (hwx.mono hw8.size)))
            clear hw8 H7 GB C1 C2 LD8 BY8
            have GB := GB8
            have C1 := C18
            have C2 := C28
            clear GB8 C18 C28
            go_wp2_with (fail)
            refine wp_laxW_list 11 (by kernel_rfl) (by kernel_rfl) (by kernel_rfl) (by kernel_rfl) (by kernel_rfl) ?_
            simp only [List.take_succ_cons, List.take_zero, List.drop_succ_cons, List.drop_zero]
            refine wpL_move (.map (some bm)) rfl (by kernel_rfl) (by kernel_rfl) (by kernel_rfl) (by kernel_rfl) ?_
            refine wpL_run1 (x := .tmp 8) (.pointer (some ⟨bb, 0, none⟩)) (.pointer (some ⟨bb, 1, none⟩)) (by kernel_rfl) (by kernel_rfl) (by kernel_rfl) (by kernel_rfl) (by kernel_rfl) (fun wx ρ hwx h0 hc => by simp [go_sem, h0, hc]) ?_
            refine wpL_run1 (x := .tmp 85) (.pointer (some ⟨bb, 1, none⟩)) (.int .i64 (sg : Int)) (by kernel_rfl) (by kernel_rfl) (by kernel_rfl) (by kernel_rfl) (by kernel_rfl) (fun wx ρ hwx h0 hc => by simp [go_sem, h0, hc, C1.out wx hwx]) ?_
            refine wpL_run1 (x := .tmp 8) (.pointer (some ⟨bb, 0, none⟩)) (.pointer (some ⟨bb, 2, none⟩)) (by kernel_rfl) (by kernel_rfl) (by kernel_rfl) (by kernel_rfl) (by kernel_rfl) (fun wx ρ hwx h0 hc => by simp [go_sem, h0, hc]) ?_
            refine wpL_run1 (x := .tmp 87) (.pointer (some ⟨bb, 2, none⟩)) (.int .i64 (pg : Int)) (by kernel_rfl) (by kernel_rfl) (by kernel_rfl) (by kernel_rfl) (by kernel_rfl) (fun wx ρ hwx h0 hc => by simp [go_sem, h0, hc, C2.out wx hwx]) ?_
            refine wpL_run2 (x := .tmp 86) (y := .tmp 88) (.int .i64 (sg : Int)) (.int .i64 (pg : Int)) (prV (sg : Int) (pg : Int)) (by kernel_rfl) (by kernel_rfl) (by kernel_rfl) (by kernel_rfl) (by kernel_rfl) (by kernel_rfl) (fun wx ρ hwx h0 h1 hc => by simp [execOp, h0, h1, hc, go_sem, prV]) ?_
            refine wpL_move (.slice ar 128 cr) rfl (by kernel_rfl) (by kernel_rfl) (by kernel_rfl) (by kernel_rfl) ?_
            refine wpL_convK (.slice ar 128 cr) (strV (bytesOf a)) rfl (by kernel_rfl) (by kernel_rfl) (by kernel_rfl) (by kernel_rfl) (fun wx hwx => given_str (GB.out.later hwx)) ?_
            refine wpL_fnT (tyG FlaM.blank) [.int .u8 255] rfl rfl (by kernel_rfl) (by kernel_rfl) (by kernel_rfl) (by kernel_rfl) (fun _ _ => by simp [go_sem]) (fun wx hwx => PG.out wx) ?_
            refine wpL_conv (strV FlaM.blank) rfl rfl (by kernel_rfl) (by kernel_rfl) (fun u wx hwx hu => tyG_str hu) ?_
            refine wpL_run2 (x := .tmp 91) (y := .tmp 93) (strV (bytesOf a)) (strV FlaM.blank) (.bool nb) (by kernel_rfl) (by kernel_rfl) (by kernel_rfl) (by kernel_rfl) (by kernel_rfl) (by kernel_rfl) (fun wx ρ hwx h0 h1 hc => neq_str rfl _ _ nb HNB.out ρ wx h0 h1) ?_
            refine wpL_end (by kernel_rfl) (fun w9 hw9 => ?_)
            simp only [FinL, setL, List.set_cons_zero, List.set_cons_succ]
            intro u9 _ _
            have H9 := H8.out.later hw9
            obtain ⟨w10, hpu, h10⟩ := H9.mapPut 3 rfl pairKeyed (mt := 45) Try.underlying45 (by omega) (pr_key (small64 hsg4) (small64 hpg4)) (.bool nb)
            have H10 := Lib.hid (h10.drop 1).drop2
            clear h10 H9 hw9 H8 GB C1 C2
            go_wp2
            clear hpu
            go_roundw
            case rel => exact ⟨i + 1, n + 1, s2, _, by omega, by omega, by go_num, H10.out, OK2.out, SZ2.out, ON2.out, HINEW.out⟩
            case measure => simp [intOf]; omega
          · obtain ⟨sg, hsg, hsg4⟩ := TH.out.2 (HR.out.symm.trans h0)
            have g0 : ((r : Int) == 0) = false := by simp [h0]
            have g1 : ((r : Int) == 1) = true := by simp [h0]
            have HEND : Hid (∀ g', HadE s sg 4 g' → HadI s2 g') := by
              intro g' h i' k' hi' hk'
              obtain ⟨hb', h1', h2'⟩ := h i' k' hi' hk'
              refine ⟨hb', h1', fun e => ?_⟩
              obtain ⟨h3', h4'⟩ := h2' e
              rw [HS2.out, NOW.out i' k' hi' hk', if_neg (by rw [← HR.out, h0]; omega), if_neg (fun h => h4' ⟨by have := h.2; omega, hk'⟩)]
              exact h3'
            have HSG := Lib.hid hsg
            clear NOW TH h0 SAME hsg
            go_wp2
            clear c0
            go_loopw [45] (fun v wx => ∃ (m n' : Nat) (g' : Lit → Value), m ≤ 4 ∧ n' ≤ n + m ∧ v = .int .i64 (m : Int) ∧ Own.St w.heap.size w wx [K.A p s2, AVals bb 35 vs, HadM bm n' g'] ∧ HadE s sg m g') (fun v _ => 4 - (intOf v).toNat)
            case atStart => exact ⟨0, n, g, Nat.zero_le _, Nat.le_refl _, rfl, H6.out, hadE_zero HI.out⟩
            case round =>
              obtain ⟨m, n', g', hm, hn', rfl, hG, hE⟩ := hrel
              have G := Lib.hid hG
              have HE := Lib.hid hE
              clear hG hE H6
              by_cases hm4 : (m : Int) < 4
              · have hm4' : m < 4 := by omega
                have c1 := (G.out.cellV 1 rfl 1 SEGC.out).1
                rw [HSG.out] at c1
                obtain ⟨w7, hpu, h7⟩ := G.out.mapPut 2 rfl pairKeyed (mt := 45) Try.underlying45 (by omega) (pr_key (small64 hsg4) (small64 hm4')) (.bool false)
                have hpu : (Instr.mapUpdate 45 (.map (some bm)) (.agg #[.int .i64 (sg : Int), .int .i64 (m : Int)]) (.bool false)).run Try.prog wr = .ok () w7 := hpu
                have H7 := Lib.hid h7
                have HE7 := Lib.hid (hadE_next hsg4 hm4' HE.out)
                clear h7 G
                go_wp2
                clear c1 hpu
                go_roundw
                case rel => exact ⟨m + 1, n' + 1, _, by omega, by omega, by go_num, H7.out, HE7.out⟩
                case measure => simp [intOf]; omega
              · have hm44 : m = 4 := by omega
                have HI2 : Hid (HadI s2 g') := HEND.out g' (by rw [← hm44]; exact HE.out)
                have c0 := (G.out.cellV 1 rfl 0 KINDC.out).1
                clear hm44
                go_wp2
                go_roundw
                case rel => exact ⟨i + 1, n', s2, g', by omega, by omega, by go_num, G.out.drop2, OK2.out, SZ2.out, ON2.out, HI2.out⟩
                case measure => simp [intOf]; omega
          · have HI2 : Hid (HadI s2 g) := by
              intro i' k' hi' hk'
              obtain ⟨hb', h1', h2'⟩ := HI.out i' k' hi' hk'
              refine ⟨hb', h1', fun e => ?_⟩
              rw [HS2.out, NOW.out i' k' hi' hk', if_neg (by rw [← HR.out, h0]; omega), if_neg (by rw [← HR.out, h0]; omega)]
              exact h2' e
            have g0 : ((r : Int) == 0) = false := by simp; omega
            have g1 : ((r : Int) == 1) = false := by simp; omega
            clear NOW TH h0 SAME
            go_wp2
            go_roundw
            case rel => exact ⟨i + 1, n, s2, g, by omega, by omega, by go_num, H6.out.drop2, OK2.out, SZ2.out, ON2.out, HI2.out⟩
            case measure => simp [intOf]; omega
        · have f1 : ((er : Int) == 0) = false := by simp; omega
          have HI2 : Hid (HadI s2 g) := by
            intro i' k' hi' hk'
            obtain ⟨hb', h1', h2'⟩ := HI.out i' k' hi' hk'
            exact ⟨hb', h1', fun e => by rw [SAME.out he]; exact h2' e⟩
          clear SAME
          go_wp2
          go_roundw
          case rel => exact ⟨i + 1, n, s2, g, by omega, by omega, by go_num, H6.out.drop2, OK2.out, SZ2.out, ON2.out, HI2.out⟩
          case measure => simp [intOf]; omega
    · go_wp2
      go_ret
      exact ⟨rfl, H.out.below⟩
end Fla
end Go.Proofs.Ytepllhfofhehaaa
