/- Layer 13, the walks: StoreCounts. -/
import Derived.Test.YtcfdjoohbicomaaR3
set_option linter.unusedVariables false
namespace Go.Proofs.Ytcfdjoohbicomaa
open Go.RowKit Go.Own Go.Maps
namespace Sto
open Go.StoM Byt
theorem mapI : Try.prog.underlying 53 = some (.map 35 3) := Try.underlying53
theorem zI (w : World) : (zeroValue 3).run Try.prog w = .ok (.int .i64 0) w := by kernel_rfl
theorem fld_a1 {o : Oper} {X : Operand} (ho : o.op = .fieldAddr 39 X 1) {p : Nat} (ρ : Operand → Value) (w : World) (h0 : ρ X = .pointer (some ⟨p, 0, none⟩)) : (execOp ρ o).run Try.prog w = .ok (.value (.pointer (some ⟨p, 1, none⟩))) w := by
  simp [execOp, ho, h0, go_sem, add_of]
theorem fld_rf {o : Oper} {X : Operand} (ho : o.op = .fieldAddr 51 X 2) {p : Nat} (ρ : Operand → Value) (w : World) (h0 : ρ X = .pointer (some ⟨p, 0, none⟩)) : (execOp ρ o).run Try.prog w = .ok (.value (.pointer (some ⟨p, 36, none⟩))) w := by
  simp [execOp, ho, h0, go_sem, add_of]
theorem ld_iC {o : Oper} {X : Operand} (ho : o.op = .load 3 X) {a : Addr} {v : Value} (ρ : Operand → Value) {w : World} (hc : w.cell? a = some v) (h0 : ρ X = .pointer (some a)) : (execOp ρ o).run Try.prog w = .ok (.value v) w := by
  simp [execOp, ho, h0, go_sem, hc]
theorem entry_E {o : Oper} {x y : Tmp} {mt : TypeId} (ho : o.op = .mapEntry mt (.tmp x) (.tmp y)) {m kv v : Value} {w w' : World} (hrun : (Instr.mapEntry mt m kv).run Try.prog w = .ok v w') (ρ : Operand → Value) (h0 : ρ (.tmp x) = m) (h1 : ρ (.tmp y) = kv) : (execOp ρ o).run Try.prog w = .ok (.value v) w' := by
  simp [execOp, ho, h0, h1, hrun, go_sem]
theorem entryS_E {o : Oper} {x y z : Tmp} {mt : TypeId} (ho : o.op = .entryStore mt (.tmp x) (.tmp y) (.tmp z)) {m s v : Value} {w w' : World} (hrun : (Instr.entryStore mt m s v).run Try.prog w = .ok () w') (ρ : Operand → Value) (h0 : ρ (.tmp x) = m) (h1 : ρ (.tmp y) = s) (h2 : ρ (.tmp z) = v) : (execOp ρ o).run Try.prog w = .ok .skip w' := by
  simp [execOp, ho, h0, h1, h2, hrun, Result.andThen]
/-- the law's numbers -/
def NumI (g : Lit → Value) (l : List Ch) : Prop := ∀ k, FitK k → g (kLit k) = .int .i64 (getS l k).refs
set_option maxRecDepth 10000 in
set_option maxHeartbeats 12800000 in
theorem walk_counts (a1 : Option Addr) (len1 cap1 : Nat) (l : List ActD) {w : World} (w1 : inSlice 37 inAct l w.heap.size w [.slice a1 len1 cap1]) :
    Calls Try.prog 5 #[.slice a1 len1 cap1] w (RetYes w) := by
  obtain ⟨hlen, hcap, hmax, hnil, hat⟩ := acts_inF (c := 37) (fun a fa => actC_len fa) w1
  have HF := Lib.hid (few_any a1 len1 cap1 hcap hmax)
  have HAT := Lib.hid hat
  have HLEN := Lib.hid hlen
  clear hat hlen hmax hnil w1
  have SH := Lib.hid (shown_any w)
  go_enter Try.func5, Try.ntmps5
  go_wp2_with (fail)
  refine SH.out.mono ?_
  rintro e wa ⟨rfl, h1⟩
  have H2 := Lib.hid ((Own.St.start w).later h1)
  clear h1 SH
  go_wp2_with (fail)
  refine (new_any H2.out).mono ?_
  rintro e wb ⟨p, rfl, h⟩
  obtain ⟨w3, bm, hmk, h3⟩ := h.mapMake (P := Try.prog) (kt := 35) (mt := 53) (z := .int .i64 0)
  have H3 := Lib.hid h3.swap2
  clear h h3 H2
  go_wp2_with (fail)
  clear hmk
  refine (HF.out w3).mono ?_
  rintro e wf ⟨rfl, rfl⟩
  obtain ⟨n, hk⟩ : ∃ k, k = min len1 200 := ⟨_, rfl⟩
  rw [← hk]
  have hn1 : n ≤ len1 := by omega
  have hn2 : n ≤ 200 := by omega
  clear hk HF
  have I0 : Hid (NumI (fun _ => .int .i64 0) []) := fun k _ => rfl
  go_wp2
  go_loopw [22] (fun v22 wr => ∃ (i m : Nat) (S : List Ch) (g : Lit → Value), i ≤ n ∧ m ≤ i ∧ v22 = .int .i64 (i : Int) ∧ Own.St w.heap.size w wr [AS p S, AMap Try.prog 35 (.int .i64 0) bm m g] ∧ Ok S ∧ Lim S i ∧ NumI g S) (fun v22 _ => n - (intOf v22).toNat)
  case atStart => exact ⟨0, 0, [], _, Nat.zero_le _, Nat.le_refl _, rfl, H3.out, ok_nil, ⟨Nat.le_refl _, fun c hc => by cases hc⟩, I0.out⟩
  case round =>
    obtain ⟨i, m, S, g, hin, hmi, rfl, hst, hok, hlim, hnum⟩ := hrel
    have H := Lib.hid hst
    have OK := Lib.hid hok
    have LM := Lib.hid hlim
    have NI := Lib.hid hnum
    clear hst hok hlim hnum H3 I0
    by_cases hi : (i : Int) < (n : Int)
    · skip
      have hik2 : i < n := by omega
      have hil : i < l.length := by rw [← HLEN.out]; omega
      obtain ⟨b, o, hbo, _, hra⟩ := HAT.out (by intro e; rw [e] at hil; exact absurd hil (Nat.not_lt_zero _))
      subst hbo
      have hr2 := hra wr (fun q hq => H.out.below.block q hq) i hil
      obtain ⟨a, ha⟩ : ∃ x, x = l[i] := ⟨_, rfl⟩
      rw [← ha] at hr2
      have fa : FitA a := hr2.2
      have FA := Lib.hid fa
      obtain ⟨cs, hcs⟩ : ∃ x, x = actC a := ⟨_, rfl⟩
      have RA : Hid (wr.rangeAt b (o + i * 37) cs) := by rw [hcs]; exact hr2.1
      have CSL : Hid (cs.length = 37) := by show _ = _; rw [hcs]; exact actC_len fa
      have CS1 : Hid (∀ u ∈ cs, u.oneCell' = true) := by rw [hcs]; exact actC_one _
      obtain ⟨kc, hkc⟩ : ∃ x, x = kC a.k := ⟨_, rfl⟩
      have KL : Hid (kc.length = 33) := by show _ = _; rw [hkc]; exact kC_len fa.k
      obtain ⟨kd, hkd⟩ : ∃ x, x = a.kind.toNat := ⟨_, rfl⟩
      obtain ⟨q, hq⟩ : ∃ x, x = kd % 4 := ⟨_, rfl⟩
      have hkb : kd < 256 := by rw [hkd]; exact a.kind.toNat_lt
      have hq4 : q < 4 := by omega
      have hqi : (kd : Int) % 4 = (q : Int) := by omega
      obtain ⟨r, hr⟩ : ∃ x, x = (getS S a.k).refs := ⟨_, rfl⟩
      have hr0 : 0 ≤ r ∧ r ≤ 200 := by
        cases h : isAt S a.k
        · rw [hr, getS_none h]; exact ⟨by decide, by decide⟩
        · have := get_lim LM.out h
          rw [hr]; omega
      obtain ⟨kl, hkl⟩ : ∃ x, x = kLit a.k := ⟨_, rfl⟩
      have KEY : Hid (keyOf Try.prog 35 (.agg kc.toArray) = some kl) := by show _ = _; rw [hkc, hkl]; exact key_of fa.k
      have GK : Hid (g kl = .int .i64 r) := by show _ = _; rw [hkl, hr]; exact NI.out a.k fa.k
      have KRB : Hid (∀ {bx : Nat} {Y : Asn} {Q : List Asn} (wx : World), Own.St w.heap.size w wx (Y :: AVals bx 39 cs :: Q) → wx.rangeAt bx 1 kc ∧ wx.cell? ⟨bx, 0, none⟩ = some (.int .u8 (kd : Int))) := fun wx h => ⟨fun j v hv => (h.cellV 1 rfl (1 + j) (by rw [hcs]; exact actC_key j v (by rw [← hkc]; exact hv))).1, (h.cellV 1 rfl 0 (by rw [hcs, hkd]; rfl)).1⟩
      have RKB : Hid (∀ {bx : Nat} {Q : List Asn} (wx : World), Own.St w.heap.size w wx (AVals bx 39 cs :: Q) → wx.rangeAt bx 1 kc) := fun wx h => fun j v hv => (h.cellV 0 rfl (1 + j) (by rw [hcs]; exact actC_key j v (by rw [← hkc]; exact hv))).1
      obtain ⟨X, hX⟩ : ∃ X, X = (doAct S a).1 := ⟨_, rfl⟩
      obtain ⟨go, hgo⟩ : ∃ X, X = (doAct S a).2.1 := ⟨_, rfl⟩
      obtain ⟨er, her⟩ : ∃ X, X = (doAct S a).2.2 := ⟨_, rfl⟩
      obtain ⟨r2, hrq⟩ : ∃ x, x = refsA r q := ⟨_, rfl⟩
      have HRQ := Lib.hid hrq
      have RF := refs_act OK.out LM.out a fa
      have e1 : (getS X a.k).refs = r2 := by rw [hX, hrq, hr, hq, hkd]; exact RF.same
      have e2 : isAt X a.k = decide (r2 > 0) := by rw [hX, hrq, hr, hq, hkd]; exact RF.is
      have E3 : Hid (go = (decide (q = 2) && decide (r = 1))) := by show _ = _; rw [hgo, hr, hq, hkd]; exact RF.gone
      have E4 : Hid (decide (er = 0) = okA r q) := by show _ = _; rw [her, hr, hq, hkd]; exact RF.err
      have e5 : ∀ k, k ≠ a.k → getS X k = getS S k := by rw [hX]; exact RF.other
      have CD : Hid (∀ {Q : List Asn} (wx : World), Own.St w.heap.size w wx (AS p S :: Q) → Calls Try.prog 13 #[ptr p, .agg cs.toArray] wx fun e w' => e = .returned (.tuple #[.bool go, .int .i64 (er : Int)]) ∧ Own.St w.heap.size w w' (AS p X :: Q)) := by
        rw [hcs, hX, hgo, her]
        exact fun {Q} wx h => does_any h OK.out LM.out (by omega) a FA.out
      have NX0 := act_ok OK.out LM.out (by omega) fa
      rw [← hX] at NX0
      have NX := Lib.hid NX0
      obtain ⟨G, hG⟩ : ∃ G, G = chC (getS X a.k) := ⟨_, rfl⟩
      have hgf := getS_fit NX0.1 a.k
      have GL : Hid (G.length = 37) := by show _ = _; rw [hG]; exact chC_len hgf.key
      have GO : Hid (∀ u ∈ G, u.oneCell' = true) := by show ∀ u ∈ G, _; rw [hG]; exact chC_one _
      have G36 : Hid (G[36]? = some (.int .i64 r2)) := by show _ = _; rw [hG, ← e1]; exact chC_rest hgf.key 3
      have GETX : Hid (∀ {Q : List Asn} (wx : World), Own.St w.heap.size w wx (AS p X :: Q) → Calls Try.prog 18 #[ptr p, .agg kc.toArray] wx fun e w' => e = .returned (.tuple #[.agg G.toArray, .bool (decide (r2 > 0))]) ∧ Below wx.heap.size wx w') := by
        rw [hkc, hG, ← e2]
        exact fun {Q} wx h => get_any h NX0.1 fa.k
      have NUMX : Hid (∀ g2 : Lit → Value, g2 kl = .int .i64 r2 → (∀ l, l ≠ kl → g2 l = g l) → NumI g2 X) := by
        intro g2 h1 h2 k hk
        by_cases e : k = a.k
        · rw [e, ← hkl, h1, e1]
        · rw [h2 _ (fun h => e (kLit_inj hk fa.k (by rw [h, hkl]))), NI.out k hk, e5 k e]
      clear hra hr2 ha fa hcs hil hkc hr hkl hX hgo her RF e1 e2 e5 NX0 hG hgf hq hkd hrq
      go_wp2_with (first
        | (refine wpList_val rfl (idx_act rfl hik2 _ _ rfl rfl) ?_)
        | (refine wpList_val rfl (load_act cs CSL.out rfl _ (b := b) (k := o + i * 37) RA.out rfl) ?_)
        | (refine wpList_box2 boxy_act rfl rfl rfl (.tmp 7) (.tmp 25) rfl rfl cs (fun _ => rfl) (fun _ => rfl) CSL.out CS1.out H.out ?_; intro b10 w6 h; have H6 := Lib.hid h; have RK6 : Hid (w6.rangeAt b10 1 kc) := RKB.out w6 h; have z := h.mapLook 2 rfl keyed mapI zI KEY.out; rw [GK.out] at z; have LK6 := Lib.hid z; clear z h)
        | (refine wpList_val rfl (Rec.load_key kc KL.out rfl _ (b := b10) (k := 1) RK6.out rfl) ?_)
        | (refine wpList_val rfl (look_exec rfl LK6.out _ rfl rfl) ?_)
        | (refine wpList_val rfl (load_act cs CSL.out rfl _ (b := b10) (k := 0) (H6.out.boxRange 0 rfl) rfl) ?_))
      refine (CD.out _ H6.out.swap2).mono ?_
      rintro e w7 ⟨rfl, h⟩
      have H7 := Lib.hid h
      have c0 := (KRB.out w7 h).2
      have RK7 : Hid (w7.rangeAt b10 1 kc) := (KRB.out w7 h).1
      clear h CD H6 H RK6 LK6
      rcases (show q = 0 ∨ q = 1 ∨ q = 2 ∨ q = 3 by omega) with hq | hq | hq | hq
      · subst hq
        rcases (show r = 0 ∨ 1 ≤ r by omega) with hz | hz
        · skip
          subst hz
          have er0 : er = 0 := by have := E4.out; unfold okA at this; simp at this; omega
          have hr2v : r2 = 1 := by rw [HRQ.out]; unfold refsA; (repeat' split) <;> first | rfl | omega
          have HV := Lib.hid hr2v
          clear hr2v HRQ
          have EB : Hid (((er : Int) == 0) = true) := by show _ = _; simp [er0]
          obtain ⟨w8, hpu, h8⟩ := H7.out.mapPut 2 rfl keyed mapI (show m < 1000000000 by omega) KEY.out (.int .i64 1)
          simp only [List.set_cons_zero, List.set_cons_succ] at h8
          have hpu : (Instr.mapUpdate 53 (.map (some bm)) (.agg kc.toArray) (.int .i64 1)).run Try.prog w7 = .ok () w8 := hpu
          have H8 := Lib.hid h8
          clear h8
          have eb := EB.out
          clear er0
          have RK8 : Hid (w8.rangeAt b10 1 kc) := (KRB.out w8 H8.out).1
          go_wp2_with (first | (refine wpList_val rfl (Rec.load_key kc KL.out rfl _ (b := b10) (k := 1) RK7.out rfl) ?_) | (refine wpList_val rfl (Rec.load_key kc KL.out rfl _ (b := b10) (k := 1) RK8.out rfl) ?_))
          clear hpu
          have G2 : Hid ((putK g kl (.int .i64 (1))) kl = .int .i64 r2) := by show _ = _; rw [HV.out]; exact putK_same
          have NUM : Hid (NumI (putK g kl (.int .i64 (1))) X) := NUMX.out _ G2.out (fun l hl => putK_other hl)
          have GET := Lib.hid (fun wx h => GETX.out wx (Own.St.later H8.out h))
          refine (GET.out w8 (Below.refl _ _)).mono ?_
          rintro e wg ⟨rfl, hg⟩
          have HG := Lib.hid (H8.out.later hg)
          clear hg GET GETX H8
          go_wp2_with (refine wpList_box2 boxy_ch rfl rfl rfl (.tmp 12) (.tmp 86) rfl rfl G (fun _ => rfl) (fun _ => rfl) GL.out GO.out HG.out ?_; intro bc w9 h; have H9 := Lib.hid h; clear h)
          have LK9 : Hid (∀ wx, Below w9.heap.size w9 wx → (Instr.lookup 53 (.map (some bm)) (.agg kc.toArray) false).run Try.prog wx = .ok (.int .i64 r2) wx) := fun wx h => by
            have z := (H9.out.later h).mapLook 3 rfl keyed mapI zI KEY.out
            rw [G2.out] at z
            exact z
          have F9 : Hid (∀ wx, Below w9.heap.size w9 wx → wx.rangeAt b10 1 kc ∧ wx.cell? ⟨bc, 36, none⟩ = some (.int .i64 r2)) := fun wx h => ⟨(KRB.out wx ((H9.out.later h).drop 1)).1, ((H9.out.later h).cellV 0 rfl 36 (v := .int .i64 r2) G36.out).1⟩
          clear HG
          refine wp_lax_list (by kernel_rfl) (by kernel_rfl) (by kernel_rfl) ?_
          refine wpL_move (.bool true) rfl (by kernel_rfl) (by kernel_rfl) (by kernel_rfl) (by kernel_rfl) ?_
          refine wpL_move (.int .i64 (er : Int)) rfl (by kernel_rfl) (by kernel_rfl) (by kernel_rfl) (by kernel_rfl) ?_
          refine wpL_run1 (x := .tmp 89) (.int .i64 (er : Int)) (.bool true) (by kernel_rfl) (by kernel_rfl) (by kernel_rfl) (by kernel_rfl) (by kernel_rfl) (fun wx ρ hwx h0 hc => by simp [go_sem, h0, hc, EB.out]) ?_
          refine wpL_run2 (x := .tmp 88) (y := .tmp 90) (.bool true) (.bool true) (.bool false) (by kernel_rfl) (by kernel_rfl) (by kernel_rfl) (by kernel_rfl) (by kernel_rfl) (by kernel_rfl) (fun wx ρ hwx h0 h1 hc => by simp [go_sem, h0, h1]) ?_
          refine wpL_move (.bool false) rfl (by kernel_rfl) (by kernel_rfl) (by kernel_rfl) (by kernel_rfl) ?_
          refine wpL_move (.bool (decide (r2 > 0))) rfl (by kernel_rfl) (by kernel_rfl) (by kernel_rfl) (by kernel_rfl) ?_
          refine wpL_move (.map (some bm)) rfl (by kernel_rfl) (by kernel_rfl) (by kernel_rfl) (by kernel_rfl) ?_
          refine wpL_run1 (x := .tmp 7) (.pointer (some ⟨b10, 0, none⟩)) (.pointer (some ⟨b10, 1, none⟩)) (by kernel_rfl) (by kernel_rfl) (by kernel_rfl) (by kernel_rfl) (by kernel_rfl) (fun wx ρ hwx h0 hc => fld_a1 rfl ρ wx h0) ?_
          refine wpL_run1 (x := .tmp 95) (.pointer (some ⟨b10, 1, none⟩)) (.agg kc.toArray) (by kernel_rfl) (by kernel_rfl) (by kernel_rfl) (by kernel_rfl) (by kernel_rfl) (fun wx ρ hwx h0 hc => Rec.load_key kc KL.out rfl ρ (F9.out wx hwx).1 h0) ?_
          refine wpL_run2 (x := .tmp 94) (y := .tmp 96) (.map (some bm)) (.agg kc.toArray) (.int .i64 r2) (by kernel_rfl) (by kernel_rfl) (by kernel_rfl) (by kernel_rfl) (by kernel_rfl) (by kernel_rfl) (fun wx ρ hwx h0 h1 hc => look_exec rfl (LK9.out wx hwx) ρ h0 h1) ?_
          refine wpL_run1 (x := .tmp 97) (.int .i64 r2) (.bool (decide (r2 > 0))) (by kernel_rfl) (by kernel_rfl) (by kernel_rfl) (by kernel_rfl) (by kernel_rfl) (fun wx ρ hwx h0 hc => by simp [go_sem, h0, hc]) ?_
          refine wpL_run2 (x := .tmp 93) (y := .tmp 98) (.bool (decide (r2 > 0))) (.bool (decide (r2 > 0))) (.bool false) (by kernel_rfl) (by kernel_rfl) (by kernel_rfl) (by kernel_rfl) (by kernel_rfl) (by kernel_rfl) (fun wx ρ hwx h0 h1 hc => by simp [go_sem, h0, h1]) ?_
          refine wpL_run2 (x := .tmp 92) (y := .tmp 99) (.bool false) (.bool false) (.bool false) (by kernel_rfl) (by kernel_rfl) (by kernel_rfl) (by kernel_rfl) (by kernel_rfl) (by kernel_rfl) (fun wx ρ hwx h0 h1 hc => by simp [go_sem, h0, h1]) ?_
          refine wpL_move (.bool false) rfl (by kernel_rfl) (by kernel_rfl) (by kernel_rfl) (by kernel_rfl) ?_
          refine wpL_run1 (x := .tmp 12) (.pointer (some ⟨bc, 0, none⟩)) (.pointer (some ⟨bc, 36, none⟩)) (by kernel_rfl) (by kernel_rfl) (by kernel_rfl) (by kernel_rfl) (by kernel_rfl) (fun wx ρ hwx h0 hc => fld_rf rfl ρ wx h0) ?_
          refine wpL_run1 (x := .tmp 102) (.pointer (some ⟨bc, 36, none⟩)) (.int .i64 r2) (by kernel_rfl) (by kernel_rfl) (by kernel_rfl) (by kernel_rfl) (by kernel_rfl) (fun wx ρ hwx h0 hc => ld_iC rfl ρ (F9.out wx hwx).2 h0) ?_
          refine wpL_move (.map (some bm)) rfl (by kernel_rfl) (by kernel_rfl) (by kernel_rfl) (by kernel_rfl) ?_
          refine wpL_run1 (x := .tmp 7) (.pointer (some ⟨b10, 0, none⟩)) (.pointer (some ⟨b10, 1, none⟩)) (by kernel_rfl) (by kernel_rfl) (by kernel_rfl) (by kernel_rfl) (by kernel_rfl) (fun wx ρ hwx h0 hc => fld_a1 rfl ρ wx h0) ?_
          refine wpL_run1 (x := .tmp 105) (.pointer (some ⟨b10, 1, none⟩)) (.agg kc.toArray) (by kernel_rfl) (by kernel_rfl) (by kernel_rfl) (by kernel_rfl) (by kernel_rfl) (fun wx ρ hwx h0 hc => Rec.load_key kc KL.out rfl ρ (F9.out wx hwx).1 h0) ?_
          refine wpL_run2 (x := .tmp 104) (y := .tmp 106) (.map (some bm)) (.agg kc.toArray) (.int .i64 r2) (by kernel_rfl) (by kernel_rfl) (by kernel_rfl) (by kernel_rfl) (by kernel_rfl) (by kernel_rfl) (fun wx ρ hwx h0 h1 hc => look_exec rfl (LK9.out wx hwx) ρ h0 h1) ?_
          refine wpL_run2 (x := .tmp 103) (y := .tmp 107) (.int .i64 r2) (.int .i64 r2) (.bool false) (by kernel_rfl) (by kernel_rfl) (by kernel_rfl) (by kernel_rfl) (by kernel_rfl) (by kernel_rfl) (fun wx ρ hwx h0 h1 hc => by simp [go_sem, h0, h1]) ?_
          refine wpL_run2 (x := .tmp 101) (y := .tmp 108) (.bool false) (.bool false) (.bool false) (by kernel_rfl) (by kernel_rfl) (by kernel_rfl) (by kernel_rfl) (by kernel_rfl) (by kernel_rfl) (fun wx ρ hwx h0 h1 hc => by simp [go_sem, h0, h1]) ?_
          refine wpL_end (by kernel_rfl) (fun w10 hw10 => ?_)
          simp only [FinL, setL, List.set_cons_zero, List.set_cons_succ]
          have H10 := Lib.hid (((H9.out.later hw10).drop 1).drop2)
          clear hw10 H9 LK9 F9
          go_wp2_with (fail)
          go_roundw
          case rel => exact ⟨i + 1, (m + 1), X, (putK g kl (.int .i64 (1))), by omega, by omega, by go_num, H10.out, NX.out.1, NX.out.2, NUM.out⟩
          case measure => simp [intOf]; omega
        · skip
          have er0 : ¬ er = 0 := by have := E4.out; unfold okA at this; simp at this; omega
          have hr2v : r2 = r := by rw [HRQ.out]; unfold refsA; (repeat' split) <;> first | rfl | omega
          have HV := Lib.hid hr2v
          clear hr2v HRQ
          have EB : Hid (((er : Int) == 0) = false) := by show _ = _; simp [er0]
          have eb := EB.out
          have rb : ((r : Int) == 0) = false := by simp; omega
          have rg : r > 0 := by omega
          clear er0
          go_wp2_with (refine wpList_val rfl (Rec.load_key kc KL.out rfl _ (b := b10) (k := 1) RK7.out rfl) ?_)
          have H8 := H7
          clear H7
          have G2 : Hid (g kl = .int .i64 r2) := by show _ = _; rw [HV.out]; exact GK.out
          have NUM : Hid (NumI g X) := NUMX.out _ G2.out (fun l hl => rfl)
          have GET := Lib.hid (fun wx h => GETX.out wx (Own.St.later H8.out h))
          refine (GET.out w7 (Below.refl _ _)).mono ?_
          rintro e wg ⟨rfl, hg⟩
          have HG := Lib.hid (H8.out.later hg)
          clear hg GET GETX H8
          go_wp2_with (refine wpList_box2 boxy_ch rfl rfl rfl (.tmp 12) (.tmp 86) rfl rfl G (fun _ => rfl) (fun _ => rfl) GL.out GO.out HG.out ?_; intro bc w9 h; have H9 := Lib.hid h; clear h)
          have LK9 : Hid (∀ wx, Below w9.heap.size w9 wx → (Instr.lookup 53 (.map (some bm)) (.agg kc.toArray) false).run Try.prog wx = .ok (.int .i64 r2) wx) := fun wx h => by
            have z := (H9.out.later h).mapLook 3 rfl keyed mapI zI KEY.out
            rw [G2.out] at z
            exact z
          have F9 : Hid (∀ wx, Below w9.heap.size w9 wx → wx.rangeAt b10 1 kc ∧ wx.cell? ⟨bc, 36, none⟩ = some (.int .i64 r2)) := fun wx h => ⟨(KRB.out wx ((H9.out.later h).drop 1)).1, ((H9.out.later h).cellV 0 rfl 36 (v := .int .i64 r2) G36.out).1⟩
          clear HG
          refine wp_lax_list (by kernel_rfl) (by kernel_rfl) (by kernel_rfl) ?_
          refine wpL_move (.bool false) rfl (by kernel_rfl) (by kernel_rfl) (by kernel_rfl) (by kernel_rfl) ?_
          refine wpL_move (.int .i64 (er : Int)) rfl (by kernel_rfl) (by kernel_rfl) (by kernel_rfl) (by kernel_rfl) ?_
          refine wpL_run1 (x := .tmp 89) (.int .i64 (er : Int)) (.bool false) (by kernel_rfl) (by kernel_rfl) (by kernel_rfl) (by kernel_rfl) (by kernel_rfl) (fun wx ρ hwx h0 hc => by simp [go_sem, h0, hc, EB.out]) ?_
          refine wpL_run2 (x := .tmp 88) (y := .tmp 90) (.bool false) (.bool false) (.bool false) (by kernel_rfl) (by kernel_rfl) (by kernel_rfl) (by kernel_rfl) (by kernel_rfl) (by kernel_rfl) (fun wx ρ hwx h0 h1 hc => by simp [go_sem, h0, h1]) ?_
          refine wpL_move (.bool false) rfl (by kernel_rfl) (by kernel_rfl) (by kernel_rfl) (by kernel_rfl) ?_
          refine wpL_move (.bool (decide (r2 > 0))) rfl (by kernel_rfl) (by kernel_rfl) (by kernel_rfl) (by kernel_rfl) ?_
          refine wpL_move (.map (some bm)) rfl (by kernel_rfl) (by kernel_rfl) (by kernel_rfl) (by kernel_rfl) ?_
          refine wpL_run1 (x := .tmp 7) (.pointer (some ⟨b10, 0, none⟩)) (.pointer (some ⟨b10, 1, none⟩)) (by kernel_rfl) (by kernel_rfl) (by kernel_rfl) (by kernel_rfl) (by kernel_rfl) (fun wx ρ hwx h0 hc => fld_a1 rfl ρ wx h0) ?_
          refine wpL_run1 (x := .tmp 95) (.pointer (some ⟨b10, 1, none⟩)) (.agg kc.toArray) (by kernel_rfl) (by kernel_rfl) (by kernel_rfl) (by kernel_rfl) (by kernel_rfl) (fun wx ρ hwx h0 hc => Rec.load_key kc KL.out rfl ρ (F9.out wx hwx).1 h0) ?_
          refine wpL_run2 (x := .tmp 94) (y := .tmp 96) (.map (some bm)) (.agg kc.toArray) (.int .i64 r2) (by kernel_rfl) (by kernel_rfl) (by kernel_rfl) (by kernel_rfl) (by kernel_rfl) (by kernel_rfl) (fun wx ρ hwx h0 h1 hc => look_exec rfl (LK9.out wx hwx) ρ h0 h1) ?_
          refine wpL_run1 (x := .tmp 97) (.int .i64 r2) (.bool (decide (r2 > 0))) (by kernel_rfl) (by kernel_rfl) (by kernel_rfl) (by kernel_rfl) (by kernel_rfl) (fun wx ρ hwx h0 hc => by simp [go_sem, h0, hc]) ?_
          refine wpL_run2 (x := .tmp 93) (y := .tmp 98) (.bool (decide (r2 > 0))) (.bool (decide (r2 > 0))) (.bool false) (by kernel_rfl) (by kernel_rfl) (by kernel_rfl) (by kernel_rfl) (by kernel_rfl) (by kernel_rfl) (fun wx ρ hwx h0 h1 hc => by simp [go_sem, h0, h1]) ?_
          refine wpL_run2 (x := .tmp 92) (y := .tmp 99) (.bool false) (.bool false) (.bool false) (by kernel_rfl) (by kernel_rfl) (by kernel_rfl) (by kernel_rfl) (by kernel_rfl) (by kernel_rfl) (fun wx ρ hwx h0 h1 hc => by simp [go_sem, h0, h1]) ?_
          refine wpL_move (.bool false) rfl (by kernel_rfl) (by kernel_rfl) (by kernel_rfl) (by kernel_rfl) ?_
          refine wpL_run1 (x := .tmp 12) (.pointer (some ⟨bc, 0, none⟩)) (.pointer (some ⟨bc, 36, none⟩)) (by kernel_rfl) (by kernel_rfl) (by kernel_rfl) (by kernel_rfl) (by kernel_rfl) (fun wx ρ hwx h0 hc => fld_rf rfl ρ wx h0) ?_
          refine wpL_run1 (x := .tmp 102) (.pointer (some ⟨bc, 36, none⟩)) (.int .i64 r2) (by kernel_rfl) (by kernel_rfl) (by kernel_rfl) (by kernel_rfl) (by kernel_rfl) (fun wx ρ hwx h0 hc => ld_iC rfl ρ (F9.out wx hwx).2 h0) ?_
          refine wpL_move (.map (some bm)) rfl (by kernel_rfl) (by kernel_rfl) (by kernel_rfl) (by kernel_rfl) ?_
          refine wpL_run1 (x := .tmp 7) (.pointer (some ⟨b10, 0, none⟩)) (.pointer (some ⟨b10, 1, none⟩)) (by kernel_rfl) (by kernel_rfl) (by kernel_rfl) (by kernel_rfl) (by kernel_rfl) (fun wx ρ hwx h0 hc => fld_a1 rfl ρ wx h0) ?_
          refine wpL_run1 (x := .tmp 105) (.pointer (some ⟨b10, 1, none⟩)) (.agg kc.toArray) (by kernel_rfl) (by kernel_rfl) (by kernel_rfl) (by kernel_rfl) (by kernel_rfl) (fun wx ρ hwx h0 hc => Rec.load_key kc KL.out rfl ρ (F9.out wx hwx).1 h0) ?_
          refine wpL_run2 (x := .tmp 104) (y := .tmp 106) (.map (some bm)) (.agg kc.toArray) (.int .i64 r2) (by kernel_rfl) (by kernel_rfl) (by kernel_rfl) (by kernel_rfl) (by kernel_rfl) (by kernel_rfl) (fun wx ρ hwx h0 h1 hc => look_exec rfl (LK9.out wx hwx) ρ h0 h1) ?_
          refine wpL_run2 (x := .tmp 103) (y := .tmp 107) (.int .i64 r2) (.int .i64 r2) (.bool false) (by kernel_rfl) (by kernel_rfl) (by kernel_rfl) (by kernel_rfl) (by kernel_rfl) (by kernel_rfl) (fun wx ρ hwx h0 h1 hc => by simp [go_sem, h0, h1]) ?_
          refine wpL_run2 (x := .tmp 101) (y := .tmp 108) (.bool false) (.bool false) (.bool false) (by kernel_rfl) (by kernel_rfl) (by kernel_rfl) (by kernel_rfl) (by kernel_rfl) (by kernel_rfl) (fun wx ρ hwx h0 h1 hc => by simp [go_sem, h0, h1]) ?_
          refine wpL_end (by kernel_rfl) (fun w10 hw10 => ?_)
          simp only [FinL, setL, List.set_cons_zero, List.set_cons_succ]
          have H10 := Lib.hid (((H9.out.later hw10).drop 1).drop2)
          clear hw10 H9 LK9 F9
          go_wp2_with (fail)
          go_roundw
          case rel => exact ⟨i + 1, m, X, g, by omega, by omega, by go_num, H10.out, NX.out.1, NX.out.2, NUM.out⟩
          case measure => simp [intOf]; omega
      · subst hq
        rcases (show r = 0 ∨ 1 ≤ r by omega) with hz | hz
        · skip
          subst hz
          have er0 : ¬ er = 0 := by have := E4.out; unfold okA at this; simp at this; omega
          have hr2v : r2 = 0 := by rw [HRQ.out]; unfold refsA; (repeat' split) <;> first | rfl | omega
          have HV := Lib.hid hr2v
          clear hr2v HRQ
          have EB : Hid (((er : Int) == 0) = false) := by show _ = _; simp [er0]
          have eb := EB.out
          clear er0
          go_wp2_with (refine wpList_val rfl (Rec.load_key kc KL.out rfl _ (b := b10) (k := 1) RK7.out rfl) ?_)
          have H8 := H7
          clear H7
          have G2 : Hid (g kl = .int .i64 r2) := by show _ = _; rw [HV.out]; exact GK.out
          have NUM : Hid (NumI g X) := NUMX.out _ G2.out (fun l hl => rfl)
          have GET := Lib.hid (fun wx h => GETX.out wx (Own.St.later H8.out h))
          refine (GET.out w7 (Below.refl _ _)).mono ?_
          rintro e wg ⟨rfl, hg⟩
          have HG := Lib.hid (H8.out.later hg)
          clear hg GET GETX H8
          go_wp2_with (refine wpList_box2 boxy_ch rfl rfl rfl (.tmp 12) (.tmp 86) rfl rfl G (fun _ => rfl) (fun _ => rfl) GL.out GO.out HG.out ?_; intro bc w9 h; have H9 := Lib.hid h; clear h)
          have LK9 : Hid (∀ wx, Below w9.heap.size w9 wx → (Instr.lookup 53 (.map (some bm)) (.agg kc.toArray) false).run Try.prog wx = .ok (.int .i64 r2) wx) := fun wx h => by
            have z := (H9.out.later h).mapLook 3 rfl keyed mapI zI KEY.out
            rw [G2.out] at z
            exact z
          have F9 : Hid (∀ wx, Below w9.heap.size w9 wx → wx.rangeAt b10 1 kc ∧ wx.cell? ⟨bc, 36, none⟩ = some (.int .i64 r2)) := fun wx h => ⟨(KRB.out wx ((H9.out.later h).drop 1)).1, ((H9.out.later h).cellV 0 rfl 36 (v := .int .i64 r2) G36.out).1⟩
          clear HG
          refine wp_lax_list (by kernel_rfl) (by kernel_rfl) (by kernel_rfl) ?_
          refine wpL_move (.bool false) rfl (by kernel_rfl) (by kernel_rfl) (by kernel_rfl) (by kernel_rfl) ?_
          refine wpL_move (.int .i64 (er : Int)) rfl (by kernel_rfl) (by kernel_rfl) (by kernel_rfl) (by kernel_rfl) ?_
          refine wpL_run1 (x := .tmp 89) (.int .i64 (er : Int)) (.bool false) (by kernel_rfl) (by kernel_rfl) (by kernel_rfl) (by kernel_rfl) (by kernel_rfl) (fun wx ρ hwx h0 hc => by simp [go_sem, h0, hc, EB.out]) ?_
          refine wpL_run2 (x := .tmp 88) (y := .tmp 90) (.bool false) (.bool false) (.bool false) (by kernel_rfl) (by kernel_rfl) (by kernel_rfl) (by kernel_rfl) (by kernel_rfl) (by kernel_rfl) (fun wx ρ hwx h0 h1 hc => by simp [go_sem, h0, h1]) ?_
          refine wpL_move (.bool false) rfl (by kernel_rfl) (by kernel_rfl) (by kernel_rfl) (by kernel_rfl) ?_
          refine wpL_move (.bool (decide (r2 > 0))) rfl (by kernel_rfl) (by kernel_rfl) (by kernel_rfl) (by kernel_rfl) ?_
          refine wpL_move (.map (some bm)) rfl (by kernel_rfl) (by kernel_rfl) (by kernel_rfl) (by kernel_rfl) ?_
          refine wpL_run1 (x := .tmp 7) (.pointer (some ⟨b10, 0, none⟩)) (.pointer (some ⟨b10, 1, none⟩)) (by kernel_rfl) (by kernel_rfl) (by kernel_rfl) (by kernel_rfl) (by kernel_rfl) (fun wx ρ hwx h0 hc => fld_a1 rfl ρ wx h0) ?_
          refine wpL_run1 (x := .tmp 95) (.pointer (some ⟨b10, 1, none⟩)) (.agg kc.toArray) (by kernel_rfl) (by kernel_rfl) (by kernel_rfl) (by kernel_rfl) (by kernel_rfl) (fun wx ρ hwx h0 hc => Rec.load_key kc KL.out rfl ρ (F9.out wx hwx).1 h0) ?_
          refine wpL_run2 (x := .tmp 94) (y := .tmp 96) (.map (some bm)) (.agg kc.toArray) (.int .i64 r2) (by kernel_rfl) (by kernel_rfl) (by kernel_rfl) (by kernel_rfl) (by kernel_rfl) (by kernel_rfl) (fun wx ρ hwx h0 h1 hc => look_exec rfl (LK9.out wx hwx) ρ h0 h1) ?_
          refine wpL_run1 (x := .tmp 97) (.int .i64 r2) (.bool (decide (r2 > 0))) (by kernel_rfl) (by kernel_rfl) (by kernel_rfl) (by kernel_rfl) (by kernel_rfl) (fun wx ρ hwx h0 hc => by simp [go_sem, h0, hc]) ?_
          refine wpL_run2 (x := .tmp 93) (y := .tmp 98) (.bool (decide (r2 > 0))) (.bool (decide (r2 > 0))) (.bool false) (by kernel_rfl) (by kernel_rfl) (by kernel_rfl) (by kernel_rfl) (by kernel_rfl) (by kernel_rfl) (fun wx ρ hwx h0 h1 hc => by simp [go_sem, h0, h1]) ?_
          refine wpL_run2 (x := .tmp 92) (y := .tmp 99) (.bool false) (.bool false) (.bool false) (by kernel_rfl) (by kernel_rfl) (by kernel_rfl) (by kernel_rfl) (by kernel_rfl) (by kernel_rfl) (fun wx ρ hwx h0 h1 hc => by simp [go_sem, h0, h1]) ?_
          refine wpL_move (.bool false) rfl (by kernel_rfl) (by kernel_rfl) (by kernel_rfl) (by kernel_rfl) ?_
          refine wpL_run1 (x := .tmp 12) (.pointer (some ⟨bc, 0, none⟩)) (.pointer (some ⟨bc, 36, none⟩)) (by kernel_rfl) (by kernel_rfl) (by kernel_rfl) (by kernel_rfl) (by kernel_rfl) (fun wx ρ hwx h0 hc => fld_rf rfl ρ wx h0) ?_
          refine wpL_run1 (x := .tmp 102) (.pointer (some ⟨bc, 36, none⟩)) (.int .i64 r2) (by kernel_rfl) (by kernel_rfl) (by kernel_rfl) (by kernel_rfl) (by kernel_rfl) (fun wx ρ hwx h0 hc => ld_iC rfl ρ (F9.out wx hwx).2 h0) ?_
          refine wpL_move (.map (some bm)) rfl (by kernel_rfl) (by kernel_rfl) (by kernel_rfl) (by kernel_rfl) ?_
          refine wpL_run1 (x := .tmp 7) (.pointer (some ⟨b10, 0, none⟩)) (.pointer (some ⟨b10, 1, none⟩)) (by kernel_rfl) (by kernel_rfl) (by kernel_rfl) (by kernel_rfl) (by kernel_rfl) (fun wx ρ hwx h0 hc => fld_a1 rfl ρ wx h0) ?_
          refine wpL_run1 (x := .tmp 105) (.pointer (some ⟨b10, 1, none⟩)) (.agg kc.toArray) (by kernel_rfl) (by kernel_rfl) (by kernel_rfl) (by kernel_rfl) (by kernel_rfl) (fun wx ρ hwx h0 hc => Rec.load_key kc KL.out rfl ρ (F9.out wx hwx).1 h0) ?_
          refine wpL_run2 (x := .tmp 104) (y := .tmp 106) (.map (some bm)) (.agg kc.toArray) (.int .i64 r2) (by kernel_rfl) (by kernel_rfl) (by kernel_rfl) (by kernel_rfl) (by kernel_rfl) (by kernel_rfl) (fun wx ρ hwx h0 h1 hc => look_exec rfl (LK9.out wx hwx) ρ h0 h1) ?_
          refine wpL_run2 (x := .tmp 103) (y := .tmp 107) (.int .i64 r2) (.int .i64 r2) (.bool false) (by kernel_rfl) (by kernel_rfl) (by kernel_rfl) (by kernel_rfl) (by kernel_rfl) (by kernel_rfl) (fun wx ρ hwx h0 h1 hc => by simp [go_sem, h0, h1]) ?_
          refine wpL_run2 (x := .tmp 101) (y := .tmp 108) (.bool false) (.bool false) (.bool false) (by kernel_rfl) (by kernel_rfl) (by kernel_rfl) (by kernel_rfl) (by kernel_rfl) (by kernel_rfl) (fun wx ρ hwx h0 h1 hc => by simp [go_sem, h0, h1]) ?_
          refine wpL_end (by kernel_rfl) (fun w10 hw10 => ?_)
          simp only [FinL, setL, List.set_cons_zero, List.set_cons_succ]
          have H10 := Lib.hid (((H9.out.later hw10).drop 1).drop2)
          clear hw10 H9 LK9 F9
          go_wp2_with (fail)
          go_roundw
          case rel => exact ⟨i + 1, m, X, g, by omega, by omega, by go_num, H10.out, NX.out.1, NX.out.2, NUM.out⟩
          case measure => simp [intOf]; omega
        · skip
          have er0 : er = 0 := by have := E4.out; unfold okA at this; simp at this; omega
          have hr2v : r2 = r + 1 := by rw [HRQ.out]; unfold refsA; (repeat' split) <;> first | rfl | omega
          have HV := Lib.hid hr2v
          clear hr2v HRQ
          have EB : Hid (((er : Int) == 0) = true) := by show _ = _; simp [er0]
          have eb := EB.out
          have rb : ((r : Int) == 0) = false := by simp; omega
          have rg : r > 0 := by omega
          clear er0
          go_wp2_with (refine wpList_val rfl (Rec.load_key kc KL.out rfl _ (b := b10) (k := 1) RK7.out rfl) ?_)
          obtain ⟨st, wB, w8, en1, hB, en2, h8⟩ := H7.out.drew.mapBump 2 rfl keyLaw mapI zI (show m < 1000000000 by omega) KEY.out (.int .i64 (r + 1))
          rw [GK.out] at en1 hB
          simp only [List.set_cons_zero, List.set_cons_succ] at hB h8
          have EN1 : Hid ((Instr.mapEntry 53 (.map (some bm)) (.agg kc.toArray)).run Try.prog w7.drew = .ok (.tuple #[.int .i64 r, .int .i64 (st : Int)]) wB) := en1
          have EN2 : Hid ((Instr.entryStore 53 (.map (some bm)) (.int .i64 (st : Int)) (.int .i64 (r + 1))).run Try.prog wB = .ok () w8) := en2
          have H8 := Lib.hid h8
          have CJ : Hid (∀ (j : Nat) (wx : World), (wx = match j with | 0 => w7.drew | 1 => wB | _ => w8) → wx.rangeAt b10 1 kc) := by
            intro j wx h
            match j, h with
            | 0, h => subst h; exact (KRB.out _ H7.out.drew).1
            | 1, h => subst h; exact (KRB.out _ hB).1
            | (j + 2), h => subst h; exact (KRB.out _ h8).1
          have CL : Hid (∀ (j : Nat) (wx : World), j ≤ 1 → (wx = match j with | 0 => w7.drew | 1 => wB | _ => w8) → (Instr.lookup 53 (.map (some bm)) (.agg kc.toArray) false).run Try.prog wx = .ok (.int .i64 r) wx) := by
            intro j wx hj h
            match j, h with
            | 0, h =>
              subst h
              have z := H7.out.drew.mapLook 2 rfl keyed mapI zI KEY.out
              rw [GK.out] at z
              exact z
            | 1, h =>
              subst h
              have z := hB.mapLook 2 rfl keyed mapI zI KEY.out
              rw [putK_same] at z
              exact z
            | (j + 2), h => exact absurd hj (by omega)
          have eW : IntKind.i64.wrap (r + 1) = r + 1 := by
            simp [IntKind.wrap, IntKind.bits, IntKind.signed]; try omega
          clear en1 hB en2 h8
          refine wp_chain_list [5, 7] (fun j wx => wx = match j with | 0 => w7.drew | 1 => wB | _ => w8) (by kernel_rfl) (by kernel_rfl) (by kernel_rfl) (by kernel_rfl) rfl ?_
          refine wpG_move (.map (some bm)) rfl (by kernel_rfl) (by kernel_rfl) (by kernel_rfl) ?_
          refine wpG_run1 (x := .tmp 7) (.pointer (some ⟨b10, 0, none⟩)) (.pointer (some ⟨b10, 1, none⟩)) (by kernel_rfl) (by kernel_rfl) (by kernel_rfl) (by kernel_rfl) (fun j wx ρ hC h0 hc => fld_a1 rfl ρ wx h0) ?_
          refine wpG_run1 (x := .tmp 60) (.pointer (some ⟨b10, 1, none⟩)) (.agg kc.toArray) (by kernel_rfl) (by kernel_rfl) (by kernel_rfl) (by kernel_rfl) (fun j wx ρ hC h0 hc => Rec.load_key kc KL.out rfl ρ (CJ.out j wx hC) h0) ?_
          refine wpG_runU 1 (.int .i64 r) (by kernel_rfl) (by kernel_rfl) (by kernel_rfl) (by kernel_rfl) (by kernel_rfl) (fun j wx hj hC => look_exec rfl (CL.out j wx hj hC) _ rfl rfl) ?_
          refine wpG_run1 (x := .tmp 62) (.int .i64 r) (.int .i64 (r + 1)) (by kernel_rfl) (by kernel_rfl) (by kernel_rfl) (by kernel_rfl) (fun j wx ρ hC h0 hc => by simp [go_sem, h0, hc, eW]) ?_
          refine wpG_op 0 (.tuple #[.int .i64 r, .int .i64 (st : Int)]) _ (.inl rfl) (by kernel_rfl) (by kernel_rfl) (by kernel_rfl) (by kernel_rfl) (by kernel_rfl) (fun wx hC => ⟨wB, by subst hC; exact entry_E rfl EN1.out _ rfl rfl, rfl⟩) ?_
          refine wpG_run1 (x := .tmp 64) (.tuple #[.int .i64 r, .int .i64 (st : Int)]) (.int .i64 (st : Int)) (by kernel_rfl) (by kernel_rfl) (by kernel_rfl) (by kernel_rfl) (fun j wx ρ hC h0 hc => by simp [go_sem, h0]) ?_
          refine wpG_op 1 undef _ (.inr ⟨rfl, rfl⟩) (by kernel_rfl) (by kernel_rfl) (by kernel_rfl) (by kernel_rfl) (by kernel_rfl) (fun wx hC => ⟨w8, by subst hC; exact entryS_E rfl EN2.out _ rfl rfl rfl, rfl⟩) ?_
          refine wpG_end (fun w9 hw9 => ?_)
          have e9 : w8 = w9 := Eq.symm hw9
          subst e9
          simp only [setL, List.set_cons_zero, List.set_cons_succ]
          clear hw9 EN1 EN2 CJ CL eW H7
          have RK8 : Hid (w8.rangeAt b10 1 kc) := (KRB.out w8 H8.out).1
          go_wp2_with (refine wpList_val rfl (Rec.load_key kc KL.out rfl _ (b := b10) (k := 1) RK8.out rfl) ?_)
          have G2 : Hid ((putK g kl (.int .i64 (r + 1))) kl = .int .i64 r2) := by show _ = _; rw [HV.out]; exact putK_same
          have NUM : Hid (NumI (putK g kl (.int .i64 (r + 1))) X) := NUMX.out _ G2.out (fun l hl => putK_other hl)
          have GET := Lib.hid (fun wx h => GETX.out wx (Own.St.later H8.out h))
          refine (GET.out w8 (Below.refl _ _)).mono ?_
          rintro e wg ⟨rfl, hg⟩
          have HG := Lib.hid (H8.out.later hg)
          clear hg GET GETX H8
          go_wp2_with (refine wpList_box2 boxy_ch rfl rfl rfl (.tmp 12) (.tmp 86) rfl rfl G (fun _ => rfl) (fun _ => rfl) GL.out GO.out HG.out ?_; intro bc w9 h; have H9 := Lib.hid h; clear h)
          have LK9 : Hid (∀ wx, Below w9.heap.size w9 wx → (Instr.lookup 53 (.map (some bm)) (.agg kc.toArray) false).run Try.prog wx = .ok (.int .i64 r2) wx) := fun wx h => by
            have z := (H9.out.later h).mapLook 3 rfl keyed mapI zI KEY.out
            rw [G2.out] at z
            exact z
          have F9 : Hid (∀ wx, Below w9.heap.size w9 wx → wx.rangeAt b10 1 kc ∧ wx.cell? ⟨bc, 36, none⟩ = some (.int .i64 r2)) := fun wx h => ⟨(KRB.out wx ((H9.out.later h).drop 1)).1, ((H9.out.later h).cellV 0 rfl 36 (v := .int .i64 r2) G36.out).1⟩
          clear HG
          refine wp_lax_list (by kernel_rfl) (by kernel_rfl) (by kernel_rfl) ?_
          refine wpL_move (.bool true) rfl (by kernel_rfl) (by kernel_rfl) (by kernel_rfl) (by kernel_rfl) ?_
          refine wpL_move (.int .i64 (er : Int)) rfl (by kernel_rfl) (by kernel_rfl) (by kernel_rfl) (by kernel_rfl) ?_
          refine wpL_run1 (x := .tmp 89) (.int .i64 (er : Int)) (.bool true) (by kernel_rfl) (by kernel_rfl) (by kernel_rfl) (by kernel_rfl) (by kernel_rfl) (fun wx ρ hwx h0 hc => by simp [go_sem, h0, hc, EB.out]) ?_
          refine wpL_run2 (x := .tmp 88) (y := .tmp 90) (.bool true) (.bool true) (.bool false) (by kernel_rfl) (by kernel_rfl) (by kernel_rfl) (by kernel_rfl) (by kernel_rfl) (by kernel_rfl) (fun wx ρ hwx h0 h1 hc => by simp [go_sem, h0, h1]) ?_
          refine wpL_move (.bool false) rfl (by kernel_rfl) (by kernel_rfl) (by kernel_rfl) (by kernel_rfl) ?_
          refine wpL_move (.bool (decide (r2 > 0))) rfl (by kernel_rfl) (by kernel_rfl) (by kernel_rfl) (by kernel_rfl) ?_
          refine wpL_move (.map (some bm)) rfl (by kernel_rfl) (by kernel_rfl) (by kernel_rfl) (by kernel_rfl) ?_
          refine wpL_run1 (x := .tmp 7) (.pointer (some ⟨b10, 0, none⟩)) (.pointer (some ⟨b10, 1, none⟩)) (by kernel_rfl) (by kernel_rfl) (by kernel_rfl) (by kernel_rfl) (by kernel_rfl) (fun wx ρ hwx h0 hc => fld_a1 rfl ρ wx h0) ?_
          refine wpL_run1 (x := .tmp 95) (.pointer (some ⟨b10, 1, none⟩)) (.agg kc.toArray) (by kernel_rfl) (by kernel_rfl) (by kernel_rfl) (by kernel_rfl) (by kernel_rfl) (fun wx ρ hwx h0 hc => Rec.load_key kc KL.out rfl ρ (F9.out wx hwx).1 h0) ?_
          refine wpL_run2 (x := .tmp 94) (y := .tmp 96) (.map (some bm)) (.agg kc.toArray) (.int .i64 r2) (by kernel_rfl) (by kernel_rfl) (by kernel_rfl) (by kernel_rfl) (by kernel_rfl) (by kernel_rfl) (fun wx ρ hwx h0 h1 hc => look_exec rfl (LK9.out wx hwx) ρ h0 h1) ?_
          refine wpL_run1 (x := .tmp 97) (.int .i64 r2) (.bool (decide (r2 > 0))) (by kernel_rfl) (by kernel_rfl) (by kernel_rfl) (by kernel_rfl) (by kernel_rfl) (fun wx ρ hwx h0 hc => by simp [go_sem, h0, hc]) ?_
          refine wpL_run2 (x := .tmp 93) (y := .tmp 98) (.bool (decide (r2 > 0))) (.bool (decide (r2 > 0))) (.bool false) (by kernel_rfl) (by kernel_rfl) (by kernel_rfl) (by kernel_rfl) (by kernel_rfl) (by kernel_rfl) (fun wx ρ hwx h0 h1 hc => by simp [go_sem, h0, h1]) ?_
          refine wpL_run2 (x := .tmp 92) (y := .tmp 99) (.bool false) (.bool false) (.bool false) (by kernel_rfl) (by kernel_rfl) (by kernel_rfl) (by kernel_rfl) (by kernel_rfl) (by kernel_rfl) (fun wx ρ hwx h0 h1 hc => by simp [go_sem, h0, h1]) ?_
          refine wpL_move (.bool false) rfl (by kernel_rfl) (by kernel_rfl) (by kernel_rfl) (by kernel_rfl) ?_
          refine wpL_run1 (x := .tmp 12) (.pointer (some ⟨bc, 0, none⟩)) (.pointer (some ⟨bc, 36, none⟩)) (by kernel_rfl) (by kernel_rfl) (by kernel_rfl) (by kernel_rfl) (by kernel_rfl) (fun wx ρ hwx h0 hc => fld_rf rfl ρ wx h0) ?_
          refine wpL_run1 (x := .tmp 102) (.pointer (some ⟨bc, 36, none⟩)) (.int .i64 r2) (by kernel_rfl) (by kernel_rfl) (by kernel_rfl) (by kernel_rfl) (by kernel_rfl) (fun wx ρ hwx h0 hc => ld_iC rfl ρ (F9.out wx hwx).2 h0) ?_
          refine wpL_move (.map (some bm)) rfl (by kernel_rfl) (by kernel_rfl) (by kernel_rfl) (by kernel_rfl) ?_
          refine wpL_run1 (x := .tmp 7) (.pointer (some ⟨b10, 0, none⟩)) (.pointer (some ⟨b10, 1, none⟩)) (by kernel_rfl) (by kernel_rfl) (by kernel_rfl) (by kernel_rfl) (by kernel_rfl) (fun wx ρ hwx h0 hc => fld_a1 rfl ρ wx h0) ?_
          refine wpL_run1 (x := .tmp 105) (.pointer (some ⟨b10, 1, none⟩)) (.agg kc.toArray) (by kernel_rfl) (by kernel_rfl) (by kernel_rfl) (by kernel_rfl) (by kernel_rfl) (fun wx ρ hwx h0 hc => Rec.load_key kc KL.out rfl ρ (F9.out wx hwx).1 h0) ?_
          refine wpL_run2 (x := .tmp 104) (y := .tmp 106) (.map (some bm)) (.agg kc.toArray) (.int .i64 r2) (by kernel_rfl) (by kernel_rfl) (by kernel_rfl) (by kernel_rfl) (by kernel_rfl) (by kernel_rfl) (fun wx ρ hwx h0 h1 hc => look_exec rfl (LK9.out wx hwx) ρ h0 h1) ?_
          refine wpL_run2 (x := .tmp 103) (y := .tmp 107) (.int .i64 r2) (.int .i64 r2) (.bool false) (by kernel_rfl) (by kernel_rfl) (by kernel_rfl) (by kernel_rfl) (by kernel_rfl) (by kernel_rfl) (fun wx ρ hwx h0 h1 hc => by simp [go_sem, h0, h1]) ?_
          refine wpL_run2 (x := .tmp 101) (y := .tmp 108) (.bool false) (.bool false) (.bool false) (by kernel_rfl) (by kernel_rfl) (by kernel_rfl) (by kernel_rfl) (by kernel_rfl) (by kernel_rfl) (fun wx ρ hwx h0 h1 hc => by simp [go_sem, h0, h1]) ?_
          refine wpL_end (by kernel_rfl) (fun w10 hw10 => ?_)
          simp only [FinL, setL, List.set_cons_zero, List.set_cons_succ]
          have H10 := Lib.hid (((H9.out.later hw10).drop 1).drop2)
          clear hw10 H9 LK9 F9
          go_wp2_with (fail)
          go_roundw
          case rel => exact ⟨i + 1, (m + 1), X, (putK g kl (.int .i64 (r + 1))), by omega, by omega, by go_num, H10.out, NX.out.1, NX.out.2, NUM.out⟩
          case measure => simp [intOf]; omega
      · subst hq
        rcases (show r = 0 ∨ r = 1 ∨ 2 ≤ r by omega) with hz | hz | hz
        · skip
          subst hz
          have er0 : ¬ er = 0 := by have := E4.out; unfold okA at this; simp at this; omega
          have hr2v : r2 = 0 := by rw [HRQ.out]; unfold refsA; (repeat' split) <;> first | rfl | omega
          have HV := Lib.hid hr2v
          clear hr2v HRQ
          have hgo : go = false := by rw [E3.out]; simp; try omega
          subst hgo
          have EB : Hid (((er : Int) == 0) = false) := by show _ = _; simp [er0]
          have eb := EB.out
          clear er0
          go_wp2_with (refine wpList_val rfl (Rec.load_key kc KL.out rfl _ (b := b10) (k := 1) RK7.out rfl) ?_)
          have H8 := H7
          clear H7
          have G2 : Hid (g kl = .int .i64 r2) := by show _ = _; rw [HV.out]; exact GK.out
          have NUM : Hid (NumI g X) := NUMX.out _ G2.out (fun l hl => rfl)
          have GET := Lib.hid (fun wx h => GETX.out wx (Own.St.later H8.out h))
          refine (GET.out w7 (Below.refl _ _)).mono ?_
          rintro e wg ⟨rfl, hg⟩
          have HG := Lib.hid (H8.out.later hg)
          clear hg GET GETX H8
          go_wp2_with (refine wpList_box2 boxy_ch rfl rfl rfl (.tmp 12) (.tmp 86) rfl rfl G (fun _ => rfl) (fun _ => rfl) GL.out GO.out HG.out ?_; intro bc w9 h; have H9 := Lib.hid h; clear h)
          have LK9 : Hid (∀ wx, Below w9.heap.size w9 wx → (Instr.lookup 53 (.map (some bm)) (.agg kc.toArray) false).run Try.prog wx = .ok (.int .i64 r2) wx) := fun wx h => by
            have z := (H9.out.later h).mapLook 3 rfl keyed mapI zI KEY.out
            rw [G2.out] at z
            exact z
          have F9 : Hid (∀ wx, Below w9.heap.size w9 wx → wx.rangeAt b10 1 kc ∧ wx.cell? ⟨bc, 36, none⟩ = some (.int .i64 r2)) := fun wx h => ⟨(KRB.out wx ((H9.out.later h).drop 1)).1, ((H9.out.later h).cellV 0 rfl 36 (v := .int .i64 r2) G36.out).1⟩
          clear HG
          refine wp_lax_list (by kernel_rfl) (by kernel_rfl) (by kernel_rfl) ?_
          refine wpL_move (.bool false) rfl (by kernel_rfl) (by kernel_rfl) (by kernel_rfl) (by kernel_rfl) ?_
          refine wpL_move (.int .i64 (er : Int)) rfl (by kernel_rfl) (by kernel_rfl) (by kernel_rfl) (by kernel_rfl) ?_
          refine wpL_run1 (x := .tmp 89) (.int .i64 (er : Int)) (.bool false) (by kernel_rfl) (by kernel_rfl) (by kernel_rfl) (by kernel_rfl) (by kernel_rfl) (fun wx ρ hwx h0 hc => by simp [go_sem, h0, hc, EB.out]) ?_
          refine wpL_run2 (x := .tmp 88) (y := .tmp 90) (.bool false) (.bool false) (.bool false) (by kernel_rfl) (by kernel_rfl) (by kernel_rfl) (by kernel_rfl) (by kernel_rfl) (by kernel_rfl) (fun wx ρ hwx h0 h1 hc => by simp [go_sem, h0, h1]) ?_
          refine wpL_move (.bool false) rfl (by kernel_rfl) (by kernel_rfl) (by kernel_rfl) (by kernel_rfl) ?_
          refine wpL_move (.bool (decide (r2 > 0))) rfl (by kernel_rfl) (by kernel_rfl) (by kernel_rfl) (by kernel_rfl) ?_
          refine wpL_move (.map (some bm)) rfl (by kernel_rfl) (by kernel_rfl) (by kernel_rfl) (by kernel_rfl) ?_
          refine wpL_run1 (x := .tmp 7) (.pointer (some ⟨b10, 0, none⟩)) (.pointer (some ⟨b10, 1, none⟩)) (by kernel_rfl) (by kernel_rfl) (by kernel_rfl) (by kernel_rfl) (by kernel_rfl) (fun wx ρ hwx h0 hc => fld_a1 rfl ρ wx h0) ?_
          refine wpL_run1 (x := .tmp 95) (.pointer (some ⟨b10, 1, none⟩)) (.agg kc.toArray) (by kernel_rfl) (by kernel_rfl) (by kernel_rfl) (by kernel_rfl) (by kernel_rfl) (fun wx ρ hwx h0 hc => Rec.load_key kc KL.out rfl ρ (F9.out wx hwx).1 h0) ?_
          refine wpL_run2 (x := .tmp 94) (y := .tmp 96) (.map (some bm)) (.agg kc.toArray) (.int .i64 r2) (by kernel_rfl) (by kernel_rfl) (by kernel_rfl) (by kernel_rfl) (by kernel_rfl) (by kernel_rfl) (fun wx ρ hwx h0 h1 hc => look_exec rfl (LK9.out wx hwx) ρ h0 h1) ?_
          refine wpL_run1 (x := .tmp 97) (.int .i64 r2) (.bool (decide (r2 > 0))) (by kernel_rfl) (by kernel_rfl) (by kernel_rfl) (by kernel_rfl) (by kernel_rfl) (fun wx ρ hwx h0 hc => by simp [go_sem, h0, hc]) ?_
          refine wpL_run2 (x := .tmp 93) (y := .tmp 98) (.bool (decide (r2 > 0))) (.bool (decide (r2 > 0))) (.bool false) (by kernel_rfl) (by kernel_rfl) (by kernel_rfl) (by kernel_rfl) (by kernel_rfl) (by kernel_rfl) (fun wx ρ hwx h0 h1 hc => by simp [go_sem, h0, h1]) ?_
          refine wpL_run2 (x := .tmp 92) (y := .tmp 99) (.bool false) (.bool false) (.bool false) (by kernel_rfl) (by kernel_rfl) (by kernel_rfl) (by kernel_rfl) (by kernel_rfl) (by kernel_rfl) (fun wx ρ hwx h0 h1 hc => by simp [go_sem, h0, h1]) ?_
          refine wpL_move (.bool false) rfl (by kernel_rfl) (by kernel_rfl) (by kernel_rfl) (by kernel_rfl) ?_
          refine wpL_run1 (x := .tmp 12) (.pointer (some ⟨bc, 0, none⟩)) (.pointer (some ⟨bc, 36, none⟩)) (by kernel_rfl) (by kernel_rfl) (by kernel_rfl) (by kernel_rfl) (by kernel_rfl) (fun wx ρ hwx h0 hc => fld_rf rfl ρ wx h0) ?_
          refine wpL_run1 (x := .tmp 102) (.pointer (some ⟨bc, 36, none⟩)) (.int .i64 r2) (by kernel_rfl) (by kernel_rfl) (by kernel_rfl) (by kernel_rfl) (by kernel_rfl) (fun wx ρ hwx h0 hc => ld_iC rfl ρ (F9.out wx hwx).2 h0) ?_
          refine wpL_move (.map (some bm)) rfl (by kernel_rfl) (by kernel_rfl) (by kernel_rfl) (by kernel_rfl) ?_
          refine wpL_run1 (x := .tmp 7) (.pointer (some ⟨b10, 0, none⟩)) (.pointer (some ⟨b10, 1, none⟩)) (by kernel_rfl) (by kernel_rfl) (by kernel_rfl) (by kernel_rfl) (by kernel_rfl) (fun wx ρ hwx h0 hc => fld_a1 rfl ρ wx h0) ?_
          refine wpL_run1 (x := .tmp 105) (.pointer (some ⟨b10, 1, none⟩)) (.agg kc.toArray) (by kernel_rfl) (by kernel_rfl) (by kernel_rfl) (by kernel_rfl) (by kernel_rfl) (fun wx ρ hwx h0 hc => Rec.load_key kc KL.out rfl ρ (F9.out wx hwx).1 h0) ?_
          refine wpL_run2 (x := .tmp 104) (y := .tmp 106) (.map (some bm)) (.agg kc.toArray) (.int .i64 r2) (by kernel_rfl) (by kernel_rfl) (by kernel_rfl) (by kernel_rfl) (by kernel_rfl) (by kernel_rfl) (fun wx ρ hwx h0 h1 hc => look_exec rfl (LK9.out wx hwx) ρ h0 h1) ?_
          refine wpL_run2 (x := .tmp 103) (y := .tmp 107) (.int .i64 r2) (.int .i64 r2) (.bool false) (by kernel_rfl) (by kernel_rfl) (by kernel_rfl) (by kernel_rfl) (by kernel_rfl) (by kernel_rfl) (fun wx ρ hwx h0 h1 hc => by simp [go_sem, h0, h1]) ?_
          refine wpL_run2 (x := .tmp 101) (y := .tmp 108) (.bool false) (.bool false) (.bool false) (by kernel_rfl) (by kernel_rfl) (by kernel_rfl) (by kernel_rfl) (by kernel_rfl) (by kernel_rfl) (fun wx ρ hwx h0 h1 hc => by simp [go_sem, h0, h1]) ?_
          refine wpL_end (by kernel_rfl) (fun w10 hw10 => ?_)
          simp only [FinL, setL, List.set_cons_zero, List.set_cons_succ]
          have H10 := Lib.hid (((H9.out.later hw10).drop 1).drop2)
          clear hw10 H9 LK9 F9
          go_wp2_with (fail)
          go_roundw
          case rel => exact ⟨i + 1, m, X, g, by omega, by omega, by go_num, H10.out, NX.out.1, NX.out.2, NUM.out⟩
          case measure => simp [intOf]; omega
        · skip
          have er0 : er = 0 := by have := E4.out; unfold okA at this; simp at this; omega
          have hr2v : r2 = r - 1 := by rw [HRQ.out]; unfold refsA; (repeat' split) <;> first | rfl | omega
          have HV := Lib.hid hr2v
          clear hr2v HRQ
          have hgo : go = true := by rw [E3.out]; simp; try omega
          subst hgo
          have EB : Hid (((er : Int) == 0) = true) := by show _ = _; simp [er0]
          have eb := EB.out
          have rb : ((r : Int) == 0) = false := by simp; omega
          have rb1 : ((r : Int) == 1) = true := by simp; omega
          have rg : r > 0 := by omega
          clear hz
          clear er0
          go_wp2_with (refine wpList_val rfl (Rec.load_key kc KL.out rfl _ (b := b10) (k := 1) RK7.out rfl) ?_)
          obtain ⟨st, wB, w8, en1, hB, en2, h8⟩ := H7.out.drew.mapBump 2 rfl keyLaw mapI zI (show m < 1000000000 by omega) KEY.out (.int .i64 (r - 1))
          rw [GK.out] at en1 hB
          simp only [List.set_cons_zero, List.set_cons_succ] at hB h8
          have EN1 : Hid ((Instr.mapEntry 53 (.map (some bm)) (.agg kc.toArray)).run Try.prog w7.drew = .ok (.tuple #[.int .i64 r, .int .i64 (st : Int)]) wB) := en1
          have EN2 : Hid ((Instr.entryStore 53 (.map (some bm)) (.int .i64 (st : Int)) (.int .i64 (r - 1))).run Try.prog wB = .ok () w8) := en2
          have H8 := Lib.hid h8
          have CJ : Hid (∀ (j : Nat) (wx : World), (wx = match j with | 0 => w7.drew | 1 => wB | _ => w8) → wx.rangeAt b10 1 kc) := by
            intro j wx h
            match j, h with
            | 0, h => subst h; exact (KRB.out _ H7.out.drew).1
            | 1, h => subst h; exact (KRB.out _ hB).1
            | (j + 2), h => subst h; exact (KRB.out _ h8).1
          have CL : Hid (∀ (j : Nat) (wx : World), j ≤ 1 → (wx = match j with | 0 => w7.drew | 1 => wB | _ => w8) → (Instr.lookup 53 (.map (some bm)) (.agg kc.toArray) false).run Try.prog wx = .ok (.int .i64 r) wx) := by
            intro j wx hj h
            match j, h with
            | 0, h =>
              subst h
              have z := H7.out.drew.mapLook 2 rfl keyed mapI zI KEY.out
              rw [GK.out] at z
              exact z
            | 1, h =>
              subst h
              have z := hB.mapLook 2 rfl keyed mapI zI KEY.out
              rw [putK_same] at z
              exact z
            | (j + 2), h => exact absurd hj (by omega)
          have eW : IntKind.i64.wrap (r - 1) = r - 1 := by
            simp [IntKind.wrap, IntKind.bits, IntKind.signed]; try omega
          clear en1 hB en2 h8
          refine wp_chain_list [5, 7] (fun j wx => wx = match j with | 0 => w7.drew | 1 => wB | _ => w8) (by kernel_rfl) (by kernel_rfl) (by kernel_rfl) (by kernel_rfl) rfl ?_
          refine wpG_move (.map (some bm)) rfl (by kernel_rfl) (by kernel_rfl) (by kernel_rfl) ?_
          refine wpG_run1 (x := .tmp 7) (.pointer (some ⟨b10, 0, none⟩)) (.pointer (some ⟨b10, 1, none⟩)) (by kernel_rfl) (by kernel_rfl) (by kernel_rfl) (by kernel_rfl) (fun j wx ρ hC h0 hc => fld_a1 rfl ρ wx h0) ?_
          refine wpG_run1 (x := .tmp 71) (.pointer (some ⟨b10, 1, none⟩)) (.agg kc.toArray) (by kernel_rfl) (by kernel_rfl) (by kernel_rfl) (by kernel_rfl) (fun j wx ρ hC h0 hc => Rec.load_key kc KL.out rfl ρ (CJ.out j wx hC) h0) ?_
          refine wpG_runU 1 (.int .i64 r) (by kernel_rfl) (by kernel_rfl) (by kernel_rfl) (by kernel_rfl) (by kernel_rfl) (fun j wx hj hC => look_exec rfl (CL.out j wx hj hC) _ rfl rfl) ?_
          refine wpG_run1 (x := .tmp 73) (.int .i64 r) (.int .i64 (r - 1)) (by kernel_rfl) (by kernel_rfl) (by kernel_rfl) (by kernel_rfl) (fun j wx ρ hC h0 hc => by simp [go_sem, h0, hc, eW]) ?_
          refine wpG_op 0 (.tuple #[.int .i64 r, .int .i64 (st : Int)]) _ (.inl rfl) (by kernel_rfl) (by kernel_rfl) (by kernel_rfl) (by kernel_rfl) (by kernel_rfl) (fun wx hC => ⟨wB, by subst hC; exact entry_E rfl EN1.out _ rfl rfl, rfl⟩) ?_
          refine wpG_run1 (x := .tmp 75) (.tuple #[.int .i64 r, .int .i64 (st : Int)]) (.int .i64 (st : Int)) (by kernel_rfl) (by kernel_rfl) (by kernel_rfl) (by kernel_rfl) (fun j wx ρ hC h0 hc => by simp [go_sem, h0]) ?_
          refine wpG_op 1 undef _ (.inr ⟨rfl, rfl⟩) (by kernel_rfl) (by kernel_rfl) (by kernel_rfl) (by kernel_rfl) (by kernel_rfl) (fun wx hC => ⟨w8, by subst hC; exact entryS_E rfl EN2.out _ rfl rfl rfl, rfl⟩) ?_
          refine wpG_end (fun w9 hw9 => ?_)
          have e9 : w8 = w9 := Eq.symm hw9
          subst e9
          simp only [setL, List.set_cons_zero, List.set_cons_succ]
          clear hw9 EN1 EN2 CJ CL eW H7
          have RK8 : Hid (w8.rangeAt b10 1 kc) := (KRB.out w8 H8.out).1
          go_wp2_with (refine wpList_val rfl (Rec.load_key kc KL.out rfl _ (b := b10) (k := 1) RK8.out rfl) ?_)
          have G2 : Hid ((putK g kl (.int .i64 (r - 1))) kl = .int .i64 r2) := by show _ = _; rw [HV.out]; exact putK_same
          have NUM : Hid (NumI (putK g kl (.int .i64 (r - 1))) X) := NUMX.out _ G2.out (fun l hl => putK_other hl)
          have GET := Lib.hid (fun wx h => GETX.out wx (Own.St.later H8.out h))
          refine (GET.out w8 (Below.refl _ _)).mono ?_
          rintro e wg ⟨rfl, hg⟩
          have HG := Lib.hid (H8.out.later hg)
          clear hg GET GETX H8
          go_wp2_with (refine wpList_box2 boxy_ch rfl rfl rfl (.tmp 12) (.tmp 86) rfl rfl G (fun _ => rfl) (fun _ => rfl) GL.out GO.out HG.out ?_; intro bc w9 h; have H9 := Lib.hid h; clear h)
          have LK9 : Hid (∀ wx, Below w9.heap.size w9 wx → (Instr.lookup 53 (.map (some bm)) (.agg kc.toArray) false).run Try.prog wx = .ok (.int .i64 r2) wx) := fun wx h => by
            have z := (H9.out.later h).mapLook 3 rfl keyed mapI zI KEY.out
            rw [G2.out] at z
            exact z
          have F9 : Hid (∀ wx, Below w9.heap.size w9 wx → wx.rangeAt b10 1 kc ∧ wx.cell? ⟨bc, 36, none⟩ = some (.int .i64 r2)) := fun wx h => ⟨(KRB.out wx ((H9.out.later h).drop 1)).1, ((H9.out.later h).cellV 0 rfl 36 (v := .int .i64 r2) G36.out).1⟩
          clear HG
          refine wp_lax_list (by kernel_rfl) (by kernel_rfl) (by kernel_rfl) ?_
          refine wpL_move (.bool true) rfl (by kernel_rfl) (by kernel_rfl) (by kernel_rfl) (by kernel_rfl) ?_
          refine wpL_move (.int .i64 (er : Int)) rfl (by kernel_rfl) (by kernel_rfl) (by kernel_rfl) (by kernel_rfl) ?_
          refine wpL_run1 (x := .tmp 89) (.int .i64 (er : Int)) (.bool true) (by kernel_rfl) (by kernel_rfl) (by kernel_rfl) (by kernel_rfl) (by kernel_rfl) (fun wx ρ hwx h0 hc => by simp [go_sem, h0, hc, EB.out]) ?_
          refine wpL_run2 (x := .tmp 88) (y := .tmp 90) (.bool true) (.bool true) (.bool false) (by kernel_rfl) (by kernel_rfl) (by kernel_rfl) (by kernel_rfl) (by kernel_rfl) (by kernel_rfl) (fun wx ρ hwx h0 h1 hc => by simp [go_sem, h0, h1]) ?_
          refine wpL_move (.bool false) rfl (by kernel_rfl) (by kernel_rfl) (by kernel_rfl) (by kernel_rfl) ?_
          refine wpL_move (.bool (decide (r2 > 0))) rfl (by kernel_rfl) (by kernel_rfl) (by kernel_rfl) (by kernel_rfl) ?_
          refine wpL_move (.map (some bm)) rfl (by kernel_rfl) (by kernel_rfl) (by kernel_rfl) (by kernel_rfl) ?_
          refine wpL_run1 (x := .tmp 7) (.pointer (some ⟨b10, 0, none⟩)) (.pointer (some ⟨b10, 1, none⟩)) (by kernel_rfl) (by kernel_rfl) (by kernel_rfl) (by kernel_rfl) (by kernel_rfl) (fun wx ρ hwx h0 hc => fld_a1 rfl ρ wx h0) ?_
          refine wpL_run1 (x := .tmp 95) (.pointer (some ⟨b10, 1, none⟩)) (.agg kc.toArray) (by kernel_rfl) (by kernel_rfl) (by kernel_rfl) (by kernel_rfl) (by kernel_rfl) (fun wx ρ hwx h0 hc => Rec.load_key kc KL.out rfl ρ (F9.out wx hwx).1 h0) ?_
          refine wpL_run2 (x := .tmp 94) (y := .tmp 96) (.map (some bm)) (.agg kc.toArray) (.int .i64 r2) (by kernel_rfl) (by kernel_rfl) (by kernel_rfl) (by kernel_rfl) (by kernel_rfl) (by kernel_rfl) (fun wx ρ hwx h0 h1 hc => look_exec rfl (LK9.out wx hwx) ρ h0 h1) ?_
          refine wpL_run1 (x := .tmp 97) (.int .i64 r2) (.bool (decide (r2 > 0))) (by kernel_rfl) (by kernel_rfl) (by kernel_rfl) (by kernel_rfl) (by kernel_rfl) (fun wx ρ hwx h0 hc => by simp [go_sem, h0, hc]) ?_
          refine wpL_run2 (x := .tmp 93) (y := .tmp 98) (.bool (decide (r2 > 0))) (.bool (decide (r2 > 0))) (.bool false) (by kernel_rfl) (by kernel_rfl) (by kernel_rfl) (by kernel_rfl) (by kernel_rfl) (by kernel_rfl) (fun wx ρ hwx h0 h1 hc => by simp [go_sem, h0, h1]) ?_
          refine wpL_run2 (x := .tmp 92) (y := .tmp 99) (.bool false) (.bool false) (.bool false) (by kernel_rfl) (by kernel_rfl) (by kernel_rfl) (by kernel_rfl) (by kernel_rfl) (by kernel_rfl) (fun wx ρ hwx h0 h1 hc => by simp [go_sem, h0, h1]) ?_
          refine wpL_move (.bool false) rfl (by kernel_rfl) (by kernel_rfl) (by kernel_rfl) (by kernel_rfl) ?_
          refine wpL_run1 (x := .tmp 12) (.pointer (some ⟨bc, 0, none⟩)) (.pointer (some ⟨bc, 36, none⟩)) (by kernel_rfl) (by kernel_rfl) (by kernel_rfl) (by kernel_rfl) (by kernel_rfl) (fun wx ρ hwx h0 hc => fld_rf rfl ρ wx h0) ?_
          refine wpL_run1 (x := .tmp 102) (.pointer (some ⟨bc, 36, none⟩)) (.int .i64 r2) (by kernel_rfl) (by kernel_rfl) (by kernel_rfl) (by kernel_rfl) (by kernel_rfl) (fun wx ρ hwx h0 hc => ld_iC rfl ρ (F9.out wx hwx).2 h0) ?_
          refine wpL_move (.map (some bm)) rfl (by kernel_rfl) (by kernel_rfl) (by kernel_rfl) (by kernel_rfl) ?_
          refine wpL_run1 (x := .tmp 7) (.pointer (some ⟨b10, 0, none⟩)) (.pointer (some ⟨b10, 1, none⟩)) (by kernel_rfl) (by kernel_rfl) (by kernel_rfl) (by kernel_rfl) (by kernel_rfl) (fun wx ρ hwx h0 hc => fld_a1 rfl ρ wx h0) ?_
          refine wpL_run1 (x := .tmp 105) (.pointer (some ⟨b10, 1, none⟩)) (.agg kc.toArray) (by kernel_rfl) (by kernel_rfl) (by kernel_rfl) (by kernel_rfl) (by kernel_rfl) (fun wx ρ hwx h0 hc => Rec.load_key kc KL.out rfl ρ (F9.out wx hwx).1 h0) ?_
          refine wpL_run2 (x := .tmp 104) (y := .tmp 106) (.map (some bm)) (.agg kc.toArray) (.int .i64 r2) (by kernel_rfl) (by kernel_rfl) (by kernel_rfl) (by kernel_rfl) (by kernel_rfl) (by kernel_rfl) (fun wx ρ hwx h0 h1 hc => look_exec rfl (LK9.out wx hwx) ρ h0 h1) ?_
          refine wpL_run2 (x := .tmp 103) (y := .tmp 107) (.int .i64 r2) (.int .i64 r2) (.bool false) (by kernel_rfl) (by kernel_rfl) (by kernel_rfl) (by kernel_rfl) (by kernel_rfl) (by kernel_rfl) (fun wx ρ hwx h0 h1 hc => by simp [go_sem, h0, h1]) ?_
          refine wpL_run2 (x := .tmp 101) (y := .tmp 108) (.bool false) (.bool false) (.bool false) (by kernel_rfl) (by kernel_rfl) (by kernel_rfl) (by kernel_rfl) (by kernel_rfl) (by kernel_rfl) (fun wx ρ hwx h0 h1 hc => by simp [go_sem, h0, h1]) ?_
          refine wpL_end (by kernel_rfl) (fun w10 hw10 => ?_)
          simp only [FinL, setL, List.set_cons_zero, List.set_cons_succ]
          have H10 := Lib.hid (((H9.out.later hw10).drop 1).drop2)
          clear hw10 H9 LK9 F9
          go_wp2_with (fail)
          go_roundw
          case rel => exact ⟨i + 1, (m + 1), X, (putK g kl (.int .i64 (r - 1))), by omega, by omega, by go_num, H10.out, NX.out.1, NX.out.2, NUM.out⟩
          case measure => simp [intOf]; omega
        · skip
          have er0 : er = 0 := by have := E4.out; unfold okA at this; simp at this; omega
          have hr2v : r2 = r - 1 := by rw [HRQ.out]; unfold refsA; (repeat' split) <;> first | rfl | omega
          have HV := Lib.hid hr2v
          clear hr2v HRQ
          have hgo : go = false := by rw [E3.out]; simp; try omega
          subst hgo
          have EB : Hid (((er : Int) == 0) = true) := by show _ = _; simp [er0]
          have eb := EB.out
          have rb : ((r : Int) == 0) = false := by simp; omega
          have rb1 : ((r : Int) == 1) = false := by simp; omega
          have rg : r > 0 := by omega
          clear er0
          go_wp2_with (refine wpList_val rfl (Rec.load_key kc KL.out rfl _ (b := b10) (k := 1) RK7.out rfl) ?_)
          obtain ⟨st, wB, w8, en1, hB, en2, h8⟩ := H7.out.drew.mapBump 2 rfl keyLaw mapI zI (show m < 1000000000 by omega) KEY.out (.int .i64 (r - 1))
          rw [GK.out] at en1 hB
          simp only [List.set_cons_zero, List.set_cons_succ] at hB h8
          have EN1 : Hid ((Instr.mapEntry 53 (.map (some bm)) (.agg kc.toArray)).run Try.prog w7.drew = .ok (.tuple #[.int .i64 r, .int .i64 (st : Int)]) wB) := en1
          have EN2 : Hid ((Instr.entryStore 53 (.map (some bm)) (.int .i64 (st : Int)) (.int .i64 (r - 1))).run Try.prog wB = .ok () w8) := en2
          have H8 := Lib.hid h8
          have CJ : Hid (∀ (j : Nat) (wx : World), (wx = match j with | 0 => w7.drew | 1 => wB | _ => w8) → wx.rangeAt b10 1 kc) := by
            intro j wx h
            match j, h with
            | 0, h => subst h; exact (KRB.out _ H7.out.drew).1
            | 1, h => subst h; exact (KRB.out _ hB).1
            | (j + 2), h => subst h; exact (KRB.out _ h8).1
          have CL : Hid (∀ (j : Nat) (wx : World), j ≤ 1 → (wx = match j with | 0 => w7.drew | 1 => wB | _ => w8) → (Instr.lookup 53 (.map (some bm)) (.agg kc.toArray) false).run Try.prog wx = .ok (.int .i64 r) wx) := by
            intro j wx hj h
            match j, h with
            | 0, h =>
              subst h
              have z := H7.out.drew.mapLook 2 rfl keyed mapI zI KEY.out
              rw [GK.out] at z
              exact z
            | 1, h =>
              subst h
              have z := hB.mapLook 2 rfl keyed mapI zI KEY.out
              rw [putK_same] at z
              exact z
            | (j + 2), h => exact absurd hj (by omega)
          have eW : IntKind.i64.wrap (r - 1) = r - 1 := by
            simp [IntKind.wrap, IntKind.bits, IntKind.signed]; try omega
          clear en1 hB en2 h8
          refine wp_chain_list [5, 7] (fun j wx => wx = match j with | 0 => w7.drew | 1 => wB | _ => w8) (by kernel_rfl) (by kernel_rfl) (by kernel_rfl) (by kernel_rfl) rfl ?_
          refine wpG_move (.map (some bm)) rfl (by kernel_rfl) (by kernel_rfl) (by kernel_rfl) ?_
          refine wpG_run1 (x := .tmp 7) (.pointer (some ⟨b10, 0, none⟩)) (.pointer (some ⟨b10, 1, none⟩)) (by kernel_rfl) (by kernel_rfl) (by kernel_rfl) (by kernel_rfl) (fun j wx ρ hC h0 hc => fld_a1 rfl ρ wx h0) ?_
          refine wpG_run1 (x := .tmp 71) (.pointer (some ⟨b10, 1, none⟩)) (.agg kc.toArray) (by kernel_rfl) (by kernel_rfl) (by kernel_rfl) (by kernel_rfl) (fun j wx ρ hC h0 hc => Rec.load_key kc KL.out rfl ρ (CJ.out j wx hC) h0) ?_
          refine wpG_runU 1 (.int .i64 r) (by kernel_rfl) (by kernel_rfl) (by kernel_rfl) (by kernel_rfl) (by kernel_rfl) (fun j wx hj hC => look_exec rfl (CL.out j wx hj hC) _ rfl rfl) ?_
          refine wpG_run1 (x := .tmp 73) (.int .i64 r) (.int .i64 (r - 1)) (by kernel_rfl) (by kernel_rfl) (by kernel_rfl) (by kernel_rfl) (fun j wx ρ hC h0 hc => by simp [go_sem, h0, hc, eW]) ?_
          refine wpG_op 0 (.tuple #[.int .i64 r, .int .i64 (st : Int)]) _ (.inl rfl) (by kernel_rfl) (by kernel_rfl) (by kernel_rfl) (by kernel_rfl) (by kernel_rfl) (fun wx hC => ⟨wB, by subst hC; exact entry_E rfl EN1.out _ rfl rfl, rfl⟩) ?_
          refine wpG_run1 (x := .tmp 75) (.tuple #[.int .i64 r, .int .i64 (st : Int)]) (.int .i64 (st : Int)) (by kernel_rfl) (by kernel_rfl) (by kernel_rfl) (by kernel_rfl) (fun j wx ρ hC h0 hc => by simp [go_sem, h0]) ?_
          refine wpG_op 1 undef _ (.inr ⟨rfl, rfl⟩) (by kernel_rfl) (by kernel_rfl) (by kernel_rfl) (by kernel_rfl) (by kernel_rfl) (fun wx hC => ⟨w8, by subst hC; exact entryS_E rfl EN2.out _ rfl rfl rfl, rfl⟩) ?_
          refine wpG_end (fun w9 hw9 => ?_)
          have e9 : w8 = w9 := Eq.symm hw9
          subst e9
          simp only [setL, List.set_cons_zero, List.set_cons_succ]
          clear hw9 EN1 EN2 CJ CL eW H7
          have RK8 : Hid (w8.rangeAt b10 1 kc) := (KRB.out w8 H8.out).1
          go_wp2_with (refine wpList_val rfl (Rec.load_key kc KL.out rfl _ (b := b10) (k := 1) RK8.out rfl) ?_)
          have G2 : Hid ((putK g kl (.int .i64 (r - 1))) kl = .int .i64 r2) := by show _ = _; rw [HV.out]; exact putK_same
          have NUM : Hid (NumI (putK g kl (.int .i64 (r - 1))) X) := NUMX.out _ G2.out (fun l hl => putK_other hl)
          have GET := Lib.hid (fun wx h => GETX.out wx (Own.St.later H8.out h))
          refine (GET.out w8 (Below.refl _ _)).mono ?_
          rintro e wg ⟨rfl, hg⟩
          have HG := Lib.hid (H8.out.later hg)
          clear hg GET GETX H8
          go_wp2_with (refine wpList_box2 boxy_ch rfl rfl rfl (.tmp 12) (.tmp 86) rfl rfl G (fun _ => rfl) (fun _ => rfl) GL.out GO.out HG.out ?_; intro bc w9 h; have H9 := Lib.hid h; clear h)
          have LK9 : Hid (∀ wx, Below w9.heap.size w9 wx → (Instr.lookup 53 (.map (some bm)) (.agg kc.toArray) false).run Try.prog wx = .ok (.int .i64 r2) wx) := fun wx h => by
            have z := (H9.out.later h).mapLook 3 rfl keyed mapI zI KEY.out
            rw [G2.out] at z
            exact z
          have F9 : Hid (∀ wx, Below w9.heap.size w9 wx → wx.rangeAt b10 1 kc ∧ wx.cell? ⟨bc, 36, none⟩ = some (.int .i64 r2)) := fun wx h => ⟨(KRB.out wx ((H9.out.later h).drop 1)).1, ((H9.out.later h).cellV 0 rfl 36 (v := .int .i64 r2) G36.out).1⟩
          clear HG
          refine wp_lax_list (by kernel_rfl) (by kernel_rfl) (by kernel_rfl) ?_
          refine wpL_move (.bool true) rfl (by kernel_rfl) (by kernel_rfl) (by kernel_rfl) (by kernel_rfl) ?_
          refine wpL_move (.int .i64 (er : Int)) rfl (by kernel_rfl) (by kernel_rfl) (by kernel_rfl) (by kernel_rfl) ?_
          refine wpL_run1 (x := .tmp 89) (.int .i64 (er : Int)) (.bool true) (by kernel_rfl) (by kernel_rfl) (by kernel_rfl) (by kernel_rfl) (by kernel_rfl) (fun wx ρ hwx h0 hc => by simp [go_sem, h0, hc, EB.out]) ?_
          refine wpL_run2 (x := .tmp 88) (y := .tmp 90) (.bool true) (.bool true) (.bool false) (by kernel_rfl) (by kernel_rfl) (by kernel_rfl) (by kernel_rfl) (by kernel_rfl) (by kernel_rfl) (fun wx ρ hwx h0 h1 hc => by simp [go_sem, h0, h1]) ?_
          refine wpL_move (.bool false) rfl (by kernel_rfl) (by kernel_rfl) (by kernel_rfl) (by kernel_rfl) ?_
          refine wpL_move (.bool (decide (r2 > 0))) rfl (by kernel_rfl) (by kernel_rfl) (by kernel_rfl) (by kernel_rfl) ?_
          refine wpL_move (.map (some bm)) rfl (by kernel_rfl) (by kernel_rfl) (by kernel_rfl) (by kernel_rfl) ?_
          refine wpL_run1 (x := .tmp 7) (.pointer (some ⟨b10, 0, none⟩)) (.pointer (some ⟨b10, 1, none⟩)) (by kernel_rfl) (by kernel_rfl) (by kernel_rfl) (by kernel_rfl) (by kernel_rfl) (fun wx ρ hwx h0 hc => fld_a1 rfl ρ wx h0) ?_
          refine wpL_run1 (x := .tmp 95) (.pointer (some ⟨b10, 1, none⟩)) (.agg kc.toArray) (by kernel_rfl) (by kernel_rfl) (by kernel_rfl) (by kernel_rfl) (by kernel_rfl) (fun wx ρ hwx h0 hc => Rec.load_key kc KL.out rfl ρ (F9.out wx hwx).1 h0) ?_
          refine wpL_run2 (x := .tmp 94) (y := .tmp 96) (.map (some bm)) (.agg kc.toArray) (.int .i64 r2) (by kernel_rfl) (by kernel_rfl) (by kernel_rfl) (by kernel_rfl) (by kernel_rfl) (by kernel_rfl) (fun wx ρ hwx h0 h1 hc => look_exec rfl (LK9.out wx hwx) ρ h0 h1) ?_
          refine wpL_run1 (x := .tmp 97) (.int .i64 r2) (.bool (decide (r2 > 0))) (by kernel_rfl) (by kernel_rfl) (by kernel_rfl) (by kernel_rfl) (by kernel_rfl) (fun wx ρ hwx h0 hc => by simp [go_sem, h0, hc]) ?_
          refine wpL_run2 (x := .tmp 93) (y := .tmp 98) (.bool (decide (r2 > 0))) (.bool (decide (r2 > 0))) (.bool false) (by kernel_rfl) (by kernel_rfl) (by kernel_rfl) (by kernel_rfl) (by kernel_rfl) (by kernel_rfl) (fun wx ρ hwx h0 h1 hc => by simp [go_sem, h0, h1]) ?_
          refine wpL_run2 (x := .tmp 92) (y := .tmp 99) (.bool false) (.bool false) (.bool false) (by kernel_rfl) (by kernel_rfl) (by kernel_rfl) (by kernel_rfl) (by kernel_rfl) (by kernel_rfl) (fun wx ρ hwx h0 h1 hc => by simp [go_sem, h0, h1]) ?_
          refine wpL_move (.bool false) rfl (by kernel_rfl) (by kernel_rfl) (by kernel_rfl) (by kernel_rfl) ?_
          refine wpL_run1 (x := .tmp 12) (.pointer (some ⟨bc, 0, none⟩)) (.pointer (some ⟨bc, 36, none⟩)) (by kernel_rfl) (by kernel_rfl) (by kernel_rfl) (by kernel_rfl) (by kernel_rfl) (fun wx ρ hwx h0 hc => fld_rf rfl ρ wx h0) ?_
          refine wpL_run1 (x := .tmp 102) (.pointer (some ⟨bc, 36, none⟩)) (.int .i64 r2) (by kernel_rfl) (by kernel_rfl) (by kernel_rfl) (by kernel_rfl) (by kernel_rfl) (fun wx ρ hwx h0 hc => ld_iC rfl ρ (F9.out wx hwx).2 h0) ?_
          refine wpL_move (.map (some bm)) rfl (by kernel_rfl) (by kernel_rfl) (by kernel_rfl) (by kernel_rfl) ?_
          refine wpL_run1 (x := .tmp 7) (.pointer (some ⟨b10, 0, none⟩)) (.pointer (some ⟨b10, 1, none⟩)) (by kernel_rfl) (by kernel_rfl) (by kernel_rfl) (by kernel_rfl) (by kernel_rfl) (fun wx ρ hwx h0 hc => fld_a1 rfl ρ wx h0) ?_
          refine wpL_run1 (x := .tmp 105) (.pointer (some ⟨b10, 1, none⟩)) (.agg kc.toArray) (by kernel_rfl) (by kernel_rfl) (by kernel_rfl) (by kernel_rfl) (by kernel_rfl) (fun wx ρ hwx h0 hc => Rec.load_key kc KL.out rfl ρ (F9.out wx hwx).1 h0) ?_
          refine wpL_run2 (x := .tmp 104) (y := .tmp 106) (.map (some bm)) (.agg kc.toArray) (.int .i64 r2) (by kernel_rfl) (by kernel_rfl) (by kernel_rfl) (by kernel_rfl) (by kernel_rfl) (by kernel_rfl) (fun wx ρ hwx h0 h1 hc => look_exec rfl (LK9.out wx hwx) ρ h0 h1) ?_
          refine wpL_run2 (x := .tmp 103) (y := .tmp 107) (.int .i64 r2) (.int .i64 r2) (.bool false) (by kernel_rfl) (by kernel_rfl) (by kernel_rfl) (by kernel_rfl) (by kernel_rfl) (by kernel_rfl) (fun wx ρ hwx h0 h1 hc => by simp [go_sem, h0, h1]) ?_
          refine wpL_run2 (x := .tmp 101) (y := .tmp 108) (.bool false) (.bool false) (.bool false) (by kernel_rfl) (by kernel_rfl) (by kernel_rfl) (by kernel_rfl) (by kernel_rfl) (by kernel_rfl) (fun wx ρ hwx h0 h1 hc => by simp [go_sem, h0, h1]) ?_
          refine wpL_end (by kernel_rfl) (fun w10 hw10 => ?_)
          simp only [FinL, setL, List.set_cons_zero, List.set_cons_succ]
          have H10 := Lib.hid (((H9.out.later hw10).drop 1).drop2)
          clear hw10 H9 LK9 F9
          go_wp2_with (fail)
          go_roundw
          case rel => exact ⟨i + 1, (m + 1), X, (putK g kl (.int .i64 (r - 1))), by omega, by omega, by go_num, H10.out, NX.out.1, NX.out.2, NUM.out⟩
          case measure => simp [intOf]; omega
      · subst hq
        rcases (show r = 0 ∨ 1 ≤ r by omega) with hz | hz
        · skip
          subst hz
          have er0 : ¬ er = 0 := by have := E4.out; unfold okA at this; simp at this; omega
          have hr2v : r2 = 0 := by rw [HRQ.out]; unfold refsA; (repeat' split) <;> first | rfl | omega
          have HV := Lib.hid hr2v
          clear hr2v HRQ
          have EB : Hid (((er : Int) == 0) = false) := by show _ = _; simp [er0]
          have eb := EB.out
          clear er0
          go_wp2_with (refine wpList_val rfl (Rec.load_key kc KL.out rfl _ (b := b10) (k := 1) RK7.out rfl) ?_)
          have H8 := H7
          clear H7
          have G2 : Hid (g kl = .int .i64 r2) := by show _ = _; rw [HV.out]; exact GK.out
          have NUM : Hid (NumI g X) := NUMX.out _ G2.out (fun l hl => rfl)
          have GET := Lib.hid (fun wx h => GETX.out wx (Own.St.later H8.out h))
          refine (GET.out w7 (Below.refl _ _)).mono ?_
          rintro e wg ⟨rfl, hg⟩
          have HG := Lib.hid (H8.out.later hg)
          clear hg GET GETX H8
          go_wp2_with (refine wpList_box2 boxy_ch rfl rfl rfl (.tmp 12) (.tmp 86) rfl rfl G (fun _ => rfl) (fun _ => rfl) GL.out GO.out HG.out ?_; intro bc w9 h; have H9 := Lib.hid h; clear h)
          have LK9 : Hid (∀ wx, Below w9.heap.size w9 wx → (Instr.lookup 53 (.map (some bm)) (.agg kc.toArray) false).run Try.prog wx = .ok (.int .i64 r2) wx) := fun wx h => by
            have z := (H9.out.later h).mapLook 3 rfl keyed mapI zI KEY.out
            rw [G2.out] at z
            exact z
          have F9 : Hid (∀ wx, Below w9.heap.size w9 wx → wx.rangeAt b10 1 kc ∧ wx.cell? ⟨bc, 36, none⟩ = some (.int .i64 r2)) := fun wx h => ⟨(KRB.out wx ((H9.out.later h).drop 1)).1, ((H9.out.later h).cellV 0 rfl 36 (v := .int .i64 r2) G36.out).1⟩
          clear HG
          refine wp_lax_list (by kernel_rfl) (by kernel_rfl) (by kernel_rfl) ?_
          refine wpL_move (.bool false) rfl (by kernel_rfl) (by kernel_rfl) (by kernel_rfl) (by kernel_rfl) ?_
          refine wpL_move (.int .i64 (er : Int)) rfl (by kernel_rfl) (by kernel_rfl) (by kernel_rfl) (by kernel_rfl) ?_
          refine wpL_run1 (x := .tmp 89) (.int .i64 (er : Int)) (.bool false) (by kernel_rfl) (by kernel_rfl) (by kernel_rfl) (by kernel_rfl) (by kernel_rfl) (fun wx ρ hwx h0 hc => by simp [go_sem, h0, hc, EB.out]) ?_
          refine wpL_run2 (x := .tmp 88) (y := .tmp 90) (.bool false) (.bool false) (.bool false) (by kernel_rfl) (by kernel_rfl) (by kernel_rfl) (by kernel_rfl) (by kernel_rfl) (by kernel_rfl) (fun wx ρ hwx h0 h1 hc => by simp [go_sem, h0, h1]) ?_
          refine wpL_move (.bool false) rfl (by kernel_rfl) (by kernel_rfl) (by kernel_rfl) (by kernel_rfl) ?_
          refine wpL_move (.bool (decide (r2 > 0))) rfl (by kernel_rfl) (by kernel_rfl) (by kernel_rfl) (by kernel_rfl) ?_
          refine wpL_move (.map (some bm)) rfl (by kernel_rfl) (by kernel_rfl) (by kernel_rfl) (by kernel_rfl) ?_
          refine wpL_run1 (x := .tmp 7) (.pointer (some ⟨b10, 0, none⟩)) (.pointer (some ⟨b10, 1, none⟩)) (by kernel_rfl) (by kernel_rfl) (by kernel_rfl) (by kernel_rfl) (by kernel_rfl) (fun wx ρ hwx h0 hc => fld_a1 rfl ρ wx h0) ?_
          refine wpL_run1 (x := .tmp 95) (.pointer (some ⟨b10, 1, none⟩)) (.agg kc.toArray) (by kernel_rfl) (by kernel_rfl) (by kernel_rfl) (by kernel_rfl) (by kernel_rfl) (fun wx ρ hwx h0 hc => Rec.load_key kc KL.out rfl ρ (F9.out wx hwx).1 h0) ?_
          refine wpL_run2 (x := .tmp 94) (y := .tmp 96) (.map (some bm)) (.agg kc.toArray) (.int .i64 r2) (by kernel_rfl) (by kernel_rfl) (by kernel_rfl) (by kernel_rfl) (by kernel_rfl) (by kernel_rfl) (fun wx ρ hwx h0 h1 hc => look_exec rfl (LK9.out wx hwx) ρ h0 h1) ?_
          refine wpL_run1 (x := .tmp 97) (.int .i64 r2) (.bool (decide (r2 > 0))) (by kernel_rfl) (by kernel_rfl) (by kernel_rfl) (by kernel_rfl) (by kernel_rfl) (fun wx ρ hwx h0 hc => by simp [go_sem, h0, hc]) ?_
          refine wpL_run2 (x := .tmp 93) (y := .tmp 98) (.bool (decide (r2 > 0))) (.bool (decide (r2 > 0))) (.bool false) (by kernel_rfl) (by kernel_rfl) (by kernel_rfl) (by kernel_rfl) (by kernel_rfl) (by kernel_rfl) (fun wx ρ hwx h0 h1 hc => by simp [go_sem, h0, h1]) ?_
          refine wpL_run2 (x := .tmp 92) (y := .tmp 99) (.bool false) (.bool false) (.bool false) (by kernel_rfl) (by kernel_rfl) (by kernel_rfl) (by kernel_rfl) (by kernel_rfl) (by kernel_rfl) (fun wx ρ hwx h0 h1 hc => by simp [go_sem, h0, h1]) ?_
          refine wpL_move (.bool false) rfl (by kernel_rfl) (by kernel_rfl) (by kernel_rfl) (by kernel_rfl) ?_
          refine wpL_run1 (x := .tmp 12) (.pointer (some ⟨bc, 0, none⟩)) (.pointer (some ⟨bc, 36, none⟩)) (by kernel_rfl) (by kernel_rfl) (by kernel_rfl) (by kernel_rfl) (by kernel_rfl) (fun wx ρ hwx h0 hc => fld_rf rfl ρ wx h0) ?_
          refine wpL_run1 (x := .tmp 102) (.pointer (some ⟨bc, 36, none⟩)) (.int .i64 r2) (by kernel_rfl) (by kernel_rfl) (by kernel_rfl) (by kernel_rfl) (by kernel_rfl) (fun wx ρ hwx h0 hc => ld_iC rfl ρ (F9.out wx hwx).2 h0) ?_
          refine wpL_move (.map (some bm)) rfl (by kernel_rfl) (by kernel_rfl) (by kernel_rfl) (by kernel_rfl) ?_
          refine wpL_run1 (x := .tmp 7) (.pointer (some ⟨b10, 0, none⟩)) (.pointer (some ⟨b10, 1, none⟩)) (by kernel_rfl) (by kernel_rfl) (by kernel_rfl) (by kernel_rfl) (by kernel_rfl) (fun wx ρ hwx h0 hc => fld_a1 rfl ρ wx h0) ?_
          refine wpL_run1 (x := .tmp 105) (.pointer (some ⟨b10, 1, none⟩)) (.agg kc.toArray) (by kernel_rfl) (by kernel_rfl) (by kernel_rfl) (by kernel_rfl) (by kernel_rfl) (fun wx ρ hwx h0 hc => Rec.load_key kc KL.out rfl ρ (F9.out wx hwx).1 h0) ?_
          refine wpL_run2 (x := .tmp 104) (y := .tmp 106) (.map (some bm)) (.agg kc.toArray) (.int .i64 r2) (by kernel_rfl) (by kernel_rfl) (by kernel_rfl) (by kernel_rfl) (by kernel_rfl) (by kernel_rfl) (fun wx ρ hwx h0 h1 hc => look_exec rfl (LK9.out wx hwx) ρ h0 h1) ?_
          refine wpL_run2 (x := .tmp 103) (y := .tmp 107) (.int .i64 r2) (.int .i64 r2) (.bool false) (by kernel_rfl) (by kernel_rfl) (by kernel_rfl) (by kernel_rfl) (by kernel_rfl) (by kernel_rfl) (fun wx ρ hwx h0 h1 hc => by simp [go_sem, h0, h1]) ?_
          refine wpL_run2 (x := .tmp 101) (y := .tmp 108) (.bool false) (.bool false) (.bool false) (by kernel_rfl) (by kernel_rfl) (by kernel_rfl) (by kernel_rfl) (by kernel_rfl) (by kernel_rfl) (fun wx ρ hwx h0 h1 hc => by simp [go_sem, h0, h1]) ?_
          refine wpL_end (by kernel_rfl) (fun w10 hw10 => ?_)
          simp only [FinL, setL, List.set_cons_zero, List.set_cons_succ]
          have H10 := Lib.hid (((H9.out.later hw10).drop 1).drop2)
          clear hw10 H9 LK9 F9
          go_wp2_with (fail)
          go_roundw
          case rel => exact ⟨i + 1, m, X, g, by omega, by omega, by go_num, H10.out, NX.out.1, NX.out.2, NUM.out⟩
          case measure => simp [intOf]; omega
        · skip
          have er0 : er = 0 := by have := E4.out; unfold okA at this; simp at this; omega
          have hr2v : r2 = r := by rw [HRQ.out]; unfold refsA; (repeat' split) <;> first | rfl | omega
          have HV := Lib.hid hr2v
          clear hr2v HRQ
          have EB : Hid (((er : Int) == 0) = true) := by show _ = _; simp [er0]
          have eb := EB.out
          have rb : ((r : Int) == 0) = false := by simp; omega
          have rg : r > 0 := by omega
          clear er0
          go_wp2_with (refine wpList_val rfl (Rec.load_key kc KL.out rfl _ (b := b10) (k := 1) RK7.out rfl) ?_)
          have H8 := H7
          clear H7
          have G2 : Hid (g kl = .int .i64 r2) := by show _ = _; rw [HV.out]; exact GK.out
          have NUM : Hid (NumI g X) := NUMX.out _ G2.out (fun l hl => rfl)
          have GET := Lib.hid (fun wx h => GETX.out wx (Own.St.later H8.out h))
          refine (GET.out w7 (Below.refl _ _)).mono ?_
          rintro e wg ⟨rfl, hg⟩
          have HG := Lib.hid (H8.out.later hg)
          clear hg GET GETX H8
          go_wp2_with (refine wpList_box2 boxy_ch rfl rfl rfl (.tmp 12) (.tmp 86) rfl rfl G (fun _ => rfl) (fun _ => rfl) GL.out GO.out HG.out ?_; intro bc w9 h; have H9 := Lib.hid h; clear h)
          have LK9 : Hid (∀ wx, Below w9.heap.size w9 wx → (Instr.lookup 53 (.map (some bm)) (.agg kc.toArray) false).run Try.prog wx = .ok (.int .i64 r2) wx) := fun wx h => by
            have z := (H9.out.later h).mapLook 3 rfl keyed mapI zI KEY.out
            rw [G2.out] at z
            exact z
          have F9 : Hid (∀ wx, Below w9.heap.size w9 wx → wx.rangeAt b10 1 kc ∧ wx.cell? ⟨bc, 36, none⟩ = some (.int .i64 r2)) := fun wx h => ⟨(KRB.out wx ((H9.out.later h).drop 1)).1, ((H9.out.later h).cellV 0 rfl 36 (v := .int .i64 r2) G36.out).1⟩
          clear HG
          refine wp_lax_list (by kernel_rfl) (by kernel_rfl) (by kernel_rfl) ?_
          refine wpL_move (.bool true) rfl (by kernel_rfl) (by kernel_rfl) (by kernel_rfl) (by kernel_rfl) ?_
          refine wpL_move (.int .i64 (er : Int)) rfl (by kernel_rfl) (by kernel_rfl) (by kernel_rfl) (by kernel_rfl) ?_
          refine wpL_run1 (x := .tmp 89) (.int .i64 (er : Int)) (.bool true) (by kernel_rfl) (by kernel_rfl) (by kernel_rfl) (by kernel_rfl) (by kernel_rfl) (fun wx ρ hwx h0 hc => by simp [go_sem, h0, hc, EB.out]) ?_
          refine wpL_run2 (x := .tmp 88) (y := .tmp 90) (.bool true) (.bool true) (.bool false) (by kernel_rfl) (by kernel_rfl) (by kernel_rfl) (by kernel_rfl) (by kernel_rfl) (by kernel_rfl) (fun wx ρ hwx h0 h1 hc => by simp [go_sem, h0, h1]) ?_
          refine wpL_move (.bool false) rfl (by kernel_rfl) (by kernel_rfl) (by kernel_rfl) (by kernel_rfl) ?_
          refine wpL_move (.bool (decide (r2 > 0))) rfl (by kernel_rfl) (by kernel_rfl) (by kernel_rfl) (by kernel_rfl) ?_
          refine wpL_move (.map (some bm)) rfl (by kernel_rfl) (by kernel_rfl) (by kernel_rfl) (by kernel_rfl) ?_
          refine wpL_run1 (x := .tmp 7) (.pointer (some ⟨b10, 0, none⟩)) (.pointer (some ⟨b10, 1, none⟩)) (by kernel_rfl) (by kernel_rfl) (by kernel_rfl) (by kernel_rfl) (by kernel_rfl) (fun wx ρ hwx h0 hc => fld_a1 rfl ρ wx h0) ?_
          refine wpL_run1 (x := .tmp 95) (.pointer (some ⟨b10, 1, none⟩)) (.agg kc.toArray) (by kernel_rfl) (by kernel_rfl) (by kernel_rfl) (by kernel_rfl) (by kernel_rfl) (fun wx ρ hwx h0 hc => Rec.load_key kc KL.out rfl ρ (F9.out wx hwx).1 h0) ?_
          refine wpL_run2 (x := .tmp 94) (y := .tmp 96) (.map (some bm)) (.agg kc.toArray) (.int .i64 r2) (by kernel_rfl) (by kernel_rfl) (by kernel_rfl) (by kernel_rfl) (by kernel_rfl) (by kernel_rfl) (fun wx ρ hwx h0 h1 hc => look_exec rfl (LK9.out wx hwx) ρ h0 h1) ?_
          refine wpL_run1 (x := .tmp 97) (.int .i64 r2) (.bool (decide (r2 > 0))) (by kernel_rfl) (by kernel_rfl) (by kernel_rfl) (by kernel_rfl) (by kernel_rfl) (fun wx ρ hwx h0 hc => by simp [go_sem, h0, hc]) ?_
          refine wpL_run2 (x := .tmp 93) (y := .tmp 98) (.bool (decide (r2 > 0))) (.bool (decide (r2 > 0))) (.bool false) (by kernel_rfl) (by kernel_rfl) (by kernel_rfl) (by kernel_rfl) (by kernel_rfl) (by kernel_rfl) (fun wx ρ hwx h0 h1 hc => by simp [go_sem, h0, h1]) ?_
          refine wpL_run2 (x := .tmp 92) (y := .tmp 99) (.bool false) (.bool false) (.bool false) (by kernel_rfl) (by kernel_rfl) (by kernel_rfl) (by kernel_rfl) (by kernel_rfl) (by kernel_rfl) (fun wx ρ hwx h0 h1 hc => by simp [go_sem, h0, h1]) ?_
          refine wpL_move (.bool false) rfl (by kernel_rfl) (by kernel_rfl) (by kernel_rfl) (by kernel_rfl) ?_
          refine wpL_run1 (x := .tmp 12) (.pointer (some ⟨bc, 0, none⟩)) (.pointer (some ⟨bc, 36, none⟩)) (by kernel_rfl) (by kernel_rfl) (by kernel_rfl) (by kernel_rfl) (by kernel_rfl) (fun wx ρ hwx h0 hc => fld_rf rfl ρ wx h0) ?_
          refine wpL_run1 (x := .tmp 102) (.pointer (some ⟨bc, 36, none⟩)) (.int .i64 r2) (by kernel_rfl) (by kernel_rfl) (by kernel_rfl) (by kernel_rfl) (by kernel_rfl) (fun wx ρ hwx h0 hc => ld_iC rfl ρ (F9.out wx hwx).2 h0) ?_
          refine wpL_move (.map (some bm)) rfl (by kernel_rfl) (by kernel_rfl) (by kernel_rfl) (by kernel_rfl) ?_
          refine wpL_run1 (x := .tmp 7) (.pointer (some ⟨b10, 0, none⟩)) (.pointer (some ⟨b10, 1, none⟩)) (by kernel_rfl) (by kernel_rfl) (by kernel_rfl) (by kernel_rfl) (by kernel_rfl) (fun wx ρ hwx h0 hc => fld_a1 rfl ρ wx h0) ?_
          refine wpL_run1 (x := .tmp 105) (.pointer (some ⟨b10, 1, none⟩)) (.agg kc.toArray) (by kernel_rfl) (by kernel_rfl) (by kernel_rfl) (by kernel_rfl) (by kernel_rfl) (fun wx ρ hwx h0 hc => Rec.load_key kc KL.out rfl ρ (F9.out wx hwx).1 h0) ?_
          refine wpL_run2 (x := .tmp 104) (y := .tmp 106) (.map (some bm)) (.agg kc.toArray) (.int .i64 r2) (by kernel_rfl) (by kernel_rfl) (by kernel_rfl) (by kernel_rfl) (by kernel_rfl) (by kernel_rfl) (fun wx ρ hwx h0 h1 hc => look_exec rfl (LK9.out wx hwx) ρ h0 h1) ?_
          refine wpL_run2 (x := .tmp 103) (y := .tmp 107) (.int .i64 r2) (.int .i64 r2) (.bool false) (by kernel_rfl) (by kernel_rfl) (by kernel_rfl) (by kernel_rfl) (by kernel_rfl) (by kernel_rfl) (fun wx ρ hwx h0 h1 hc => by simp [go_sem, h0, h1]) ?_
          refine wpL_run2 (x := .tmp 101) (y := .tmp 108) (.bool false) (.bool false) (.bool false) (by kernel_rfl) (by kernel_rfl) (by kernel_rfl) (by kernel_rfl) (by kernel_rfl) (by kernel_rfl) (fun wx ρ hwx h0 h1 hc => by simp [go_sem, h0, h1]) ?_
          refine wpL_end (by kernel_rfl) (fun w10 hw10 => ?_)
          simp only [FinL, setL, List.set_cons_zero, List.set_cons_succ]
          have H10 := Lib.hid (((H9.out.later hw10).drop 1).drop2)
          clear hw10 H9 LK9 F9
          go_wp2_with (fail)
          go_roundw
          case rel => exact ⟨i + 1, m, X, g, by omega, by omega, by go_num, H10.out, NX.out.1, NX.out.2, NUM.out⟩
          case measure => simp [intOf]; omega
    · have hi2 : i = n := by omega
      subst hi2
      go_wp2_with (fail)
      go_ret
      exact ⟨rfl, H.out.below⟩
end Sto
end Go.Proofs.Ytcfdjoohbicomaa
