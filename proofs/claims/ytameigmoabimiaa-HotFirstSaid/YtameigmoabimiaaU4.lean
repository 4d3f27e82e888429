/- Merged: LawHotD HotI GhaA GhaB GhaC GhaD GhaE HtaA -/
import Derived.Maps.RangeWalk
import Derived.Maps.OwnSet
import Derived.Laws.MakeOwn
import Derived.Test.YtameigmoabimiaaU1
import Derived.Test.YtameigmoabimiaaU2
import Derived.Test.YtameigmoabimiaaU3
set_option linter.unusedVariables false
section
namespace Go.Proofs.Ytameigmoabimiaa
open Go.RowKit Go.Own
namespace Hot
open Go.GhoM Go.HotM Byt Gho
theorem fldH {o : Oper} {X : Operand} {k : Nat} (ho : o.op = .fieldAddr 34 X k) (hk : k < 3) {p : Nat} (ρ : Operand → Value) (w : World) (h0 : ρ X = ptr p) : (execOp ρ o).run Try.prog w = .ok (.value (.pointer (some ⟨p, k, none⟩))) w := by
  match k, hk with
  | 0, _ => simp [execOp, ho, h0, go_sem, add_of]
  | 1, _ => simp [execOp, ho, h0, go_sem, add_of]
  | 2, _ => simp [execOp, ho, h0, go_sem, add_of]
theorem conv_bs {o : Oper} {x : Tmp} (ho : o.op = .convert 32 9 (.tmp x)) {ao : Option Addr} {n c : Nat} {l : List UInt8} (ρ : Operand → Value) {w : World} (hg : Given w ao n c l) (h0 : ρ (.tmp x) = .slice ao n c) : (execOp ρ o).run Try.prog w = .ok (.value (strV l)) w := by
  have := given_str hg
  simp [execOp, ho, h0, this, go_sem]
section
variable {W : World}
/-- what the world is like while a block is offered to both (X: what else there is) -/
def PO (K : Kept W) (X : Asn) (b12 : Nat) (cs : List Value) (p pw pq : Nat) (h h2 : H) (v vg : Value) : Nat → World → Prop
  | 0, wx => Own.St W.heap.size W wx [X, AVals b12 34 cs, K.A p h, ARefH pw v pq vg h]
  | 1, wx => Own.St W.heap.size W wx [X, AVals b12 34 cs, K.A p h2, ARefH pw v pq vg h]
  | _, wx => ∃ v' vg', Own.St W.heap.size W wx [X, AVals b12 34 cs, K.A p h2, ARefH pw v' pq vg' h2]
theorem po_cells {x1 x2 : Value} {K : Kept W} {X : Asn} {b12 p pw pq : Nat} {cs : List Value} {h h2 : H} {v vg : Value} (h1 : cs[1]? = some x1) (h2' : cs[2]? = some x2) : ∀ j wx, PO K X b12 cs p pw pq h h2 v vg j wx → wx.cell? ⟨b12, 1, none⟩ = some x1 ∧ wx.cell? ⟨b12, 2, none⟩ = some x2 ∧ Below W.heap.size W wx
  | 0, wx, hh => ⟨(hh.cellV 1 rfl 1 h1).1, (hh.cellV 1 rfl 2 h2').1, hh.below⟩
  | 1, wx, hh => ⟨(hh.cellV 1 rfl 1 h1).1, (hh.cellV 1 rfl 2 h2').1, hh.below⟩
  | _ + 2, wx, ⟨_, _, hh⟩ => ⟨(hh.cellV 1 rfl 1 h1).1, (hh.cellV 1 rfl 2 h2').1, hh.below⟩
end
theorem xor85 (c : UInt8) : bits .xor .u8 (c.toNat : Int) 85 = ((c ^^^ 85).toNat : Int) := by
  have h := u8_xor_nat c.toNat 85 c.toNat_lt (by omega)
  rw [UInt8.toNat_xor]
  exact h
set_option maxRecDepth 10000 in
set_option maxHeartbeats 25600000 in
theorem walk_plays (room : Int) (hroom : -9223372036854775808 ≤ room ∧ room ≤ 9223372036854775807) (known : Int) (hknown : -9223372036854775808 ≤ known ∧ known ≤ 9223372036854775807) (a1 : Option Addr) (len1 cap1 : Nat) (l : List ActD) {w : World} (w1 : inSlice 3 inAct l w.heap.size w [.slice a1 len1 cap1]) (K : Kept w) :
    Calls Try.prog 3 #[.int .i64 room, .int .i64 known, .slice a1 len1 cap1] w (RetYes w) := by
  obtain ⟨hlen, hcap, hmax, hnil, hat⟩ := acts_in w1
  have SH := Lib.hid (shown_any K (Below.refl _ _))
  have HF := Lib.hid (fun wx hwx => few_any w1 wx hwx)
  have HAT := Lib.hid hat
  have HLEN := Lib.hid hlen
  have hcap63 : cap1 ≤ 9223372036854775807 := by unfold maxLen at hmax; omega
  have N1 := fun (wx : World) (hwx : Below w.heap.size w wx) => K.new (w := wx) (B := w.heap.size) (w0 := w) (Ps := []) room known hwx ((Own.St.start w).later hwx) hroom hknown
  clear hat hlen w1 hmax hnil
  by_cases hm : mayBe room = true ∧ mayBe known = true
  · obtain ⟨n, rfl⟩ : ∃ n : Nat, room = (n : Int) := ⟨room.toNat, by have := hm.1; unfold mayBe at this; simp at this; omega⟩
    obtain ⟨q, rfl⟩ : ∃ n : Nat, known = (n : Int) := ⟨known.toNat, by have := hm.2; unfold mayBe at this; simp at this; omega⟩
    have hn : n ≤ 4096 := by have := hm.1; unfold mayBe at this; simp at this; omega
    have hq : q ≤ 4096 := by have := hm.2; unfold mayBe at this; simp at this; omega
    simp only [hm, and_self, if_true, Int.toNat_natCast] at N1
    replace N1 := Lib.hid N1
    have q1 : ¬ (n : Int) < 0 := by omega
    have q2 : ¬ (n : Int) > 4096 := by omega
    have q3 : ¬ (q : Int) < 0 := by omega
    have q4 : ¬ (q : Int) > 4096 := by omega
    clear hm hroom hknown
    go_enter Try.func3, Try.ntmps3
    go_wp2_with (fail)
    refine SH.out.mono ?_
    rintro e wa ⟨rfl, h1⟩
    have U1 := Lib.hid h1
    clear h1 SH
    go_wp2_with (fail)
    refine (N1.out _ U1.out).mono ?_
    clear N1
    rintro e wa2 ⟨p, rfl, h3⟩
    have H2 := Lib.hid h3
    clear h3 U1
    go_wp2_with (fail)
    refine (newR_any n q H2.out).mono ?_
    rintro e wb ⟨pw, v0, pq, vg0, rfl, h3⟩
    have H3 := Lib.hid h3.swap2
    clear h3 H2
    go_wp2_with (fail)
    refine (HF.out wb H3.out.below).mono ?_
    rintro e wc ⟨k, rfl, rfl, hk1, hk2, hsm⟩
    have HSM := Lib.hid hsm
    clear hsm
    go_wp2
    go_loopw [62] (fun v62 wr => ∃ (i : Nat) (h : H) (v vg : Value), i ≤ k ∧ v62 = .int .i64 (i : Int) ∧ Own.St w.heap.size w wr [K.A p h, ARefH pw v pq vg h] ∧ HotM.Ok h) (fun v62 _ => k - (intOf v62).toNat)
    case atStart => exact ⟨0, newH n q, _, _, Nat.zero_le _, rfl, H3.out, HotM.ok_new hn hq⟩
    case round =>
      obtain ⟨i, h, v, vg, hik, rfl, hst, hok⟩ := hrel
      have HS := Lib.hid hst
      have OK := Lib.hid hok
      clear hst hok H3
      by_cases hi : (i : Int) < (k : Int)
      · have hik2 : i < k := by omega
        have hil : i < l.length := by rw [← HLEN.out]; omega
        obtain ⟨b, o, hbo, hra⟩ := HAT.out (by intro e; rw [e] at hil; exact absurd hil (Nat.not_lt_zero _))
        subst hbo
        obtain ⟨ad, cd, hact⟩ := hra i hil
        have hb2 := HSM.out i hil hik2
        obtain ⟨kd, hkd⟩ : ∃ x, x = l[i].kind := ⟨_, rfl⟩
        obtain ⟨x, hx⟩ : ∃ x, x = l[i].addr := ⟨_, rfl⟩
        obtain ⟨bs, hbs⟩ : ∃ x, x = l[i].b := ⟨_, rfl⟩
        obtain ⟨m, hm⟩ : ∃ x, x = l[i].b.length := ⟨_, rfl⟩
        obtain ⟨cs, hcs⟩ : ∃ x, x = actC l[i] (.slice ad l[i].b.length cd) := ⟨_, rfl⟩
        have RA : Hid (wr.rangeAt b (o + i * 3) cs) := by rw [hcs]; exact (hact wr HS.out.below).range
        have CSL : Hid (cs.length = 3) := by show _ = _; rw [hcs]; rfl
        have CS1 : Hid (∀ u ∈ cs, u.oneCell' = true) := by rw [hcs]; exact actC_one _ _ _ _
        have K0 : Hid (cs[0]? = some (.int .u8 (kd : Int))) := by show _ = _; rw [hcs, hkd]; rfl
        have K1 : Hid (cs[1]? = some (aV x)) := by show _ = _; rw [hcs, hx]; rfl
        have K2 : Hid (cs[2]? = some (.slice ad m cd)) := by show _ = _; rw [hcs, hm]; rfl
        have HX : Hid (x < 4294967296) := by rw [hx]; exact (hact wr HS.out.below).addr
        have BL : Hid (bs.length ≤ 20000) := by rw [hbs]; exact hb2
        have ML : Hid (m ≤ 20000) := by rw [hm]; exact hb2
        have GV : Hid (∀ wx, Below w.heap.size w wx → Given wx ad m cd bs) := by rw [hm, hbs]; exact fun wx hwx => (hact wx hwx).given
        obtain ⟨f, hf⟩ : ∃ f, f = kd % 3 := ⟨_, rfl⟩
        have hf3 : f = 0 ∨ f = 1 ∨ f = 2 := by omega
        have HF3 := Lib.hid hf
        clear hra hact hb2 hkd hx hbs hm hcs hf
        rcases hf3 with rfl | rfl | rfl
        · skip
          go_wp2_with (first
              | (refine wpList_val rfl (idx_act rfl (show i < k from hik2) _ _ rfl rfl) ?_)
              | (refine wpList_val rfl (load_act cs CSL.out rfl _ (b := b) (k := o + i * 3) RA.out rfl) ?_)
              | (refine wpList_box2 boxy_act rfl rfl rfl (.tmp 12) (.tmp 65) rfl rfl cs (fun _ => rfl) (fun _ => rfl) CSL.out CS1.out HS.out ?_; intro b12 w6 h6; have HX6 := Lib.hid h6; have d0 := (h6.cellV 0 rfl 0 K0.out).1; have d1 := (h6.cellV 0 rfl 1 K1.out).1; have d2 := (h6.cellV 0 rfl 2 K2.out).1; have h7 := ab_empty h6; have e2 := (h7.cellV 1 rfl 2 K2.out).1; have HE := Lib.hid h7; have G7 := Lib.hid (GV.out _ h7.below); clear h7; clear h6)
              | (refine wpList_val rfl (rem_u8 3 (by decide) rfl (by decide) HF3.out _ _ rfl rfl) ?_)
              | (at_builtin; refine wpList_ab_append rfl (.tmp 80) (.tmp 82) rfl HE.out 0 rfl rfl ad m cd bs rfl (given_nil G7.out) G7.out.size (vcells G7.out.view) (by have := ML.out; omega) ?_; intro ao9 c9 w9 h9; simp only [List.set_cons_zero, Nat.zero_add, List.nil_append] at h9 ⊢; have H9 := Lib.hid h9; clear h9))
          obtain ⟨ob, hob⟩ : ∃ y, y = offB h x := ⟨_, rfl⟩
          have HOB := Lib.hid hob
          clear hob HE HX6 HS d0 d1 d2 e2
          have HD := Lib.hid H9.out.drew
          clear H9
          obtain ⟨X, hX⟩ : ∃ X, X = AB ao9 m c9 bs := ⟨_, rfl⟩
          have HXX := Lib.hid hX
          rw [← hX] at HD
          have PC := Lib.hid (po_cells (K := K) (X := X) (b12 := b12) (p := p) (pw := pw) (pq := pq) (h := h) (h2 := HotM.offer h x bs) (v := v) (vg := vg) K1.out K2.out)
          have C1 : Hid (∀ wx, PO K X b12 cs p pw pq h (HotM.offer h x bs) v vg 0 wx → Calls Try.prog 12 #[ptr p, aV x, .slice ao9 m c9] wx fun e w' => e = .returned (.bool ob) ∧ PO K X b12 cs p pw pq h (HotM.offer h x bs) v vg 1 w') := by
            intro wx hC
            rw [HOB.out]
            have hg : Given wx ao9 m c9 bs := given_own (l := bs) hC 0 (by rw [hX]; rfl)
            refine (K.offer x ao9 m c9 bs hC.below (hC.front 2 rfl) OK.out HX.out hg ML.out).mono ?_
            rintro e w' ⟨e1, h9⟩
            exact ⟨e1, h9.perm (List.perm_middle (l₁ := [_, _])).symm⟩
          have C2 : Hid (∀ wx, PO K X b12 cs p pw pq h (HotM.offer h x bs) v vg 1 wx → Calls Try.prog 13 #[ptr pw, aV x, strV bs] wx fun e w' => e = .returned (.bool ob) ∧ PO K X b12 cs p pw pq h (HotM.offer h x bs) v vg 2 w') := by
            intro wx hC
            rw [HOB.out]
            refine (offerR_any (hC.front 3 rfl) OK.out x bs).mono ?_
            rintro e w' ⟨e1, v', vg', h9⟩
            exact ⟨e1, v', vg', h9.perm (List.perm_middle (l₁ := [_, _, _])).symm⟩
          clear hX
          have hm20 := ML.out
          go_simp
          refine wp_chain_list [4, 11] (PO K X b12 cs p pw pq h (HotM.offer h x bs) v vg) (by kernel_rfl) (by kernel_rfl) (by kernel_rfl) (by kernel_rfl) HD.out ?_
          refine wpG_move (ptr p) rfl (by kernel_rfl) (by kernel_rfl) (by kernel_rfl) ?_
          refine wpG_run1 (x := .tmp 12) (ptr b12) (.pointer (some ⟨b12, 1, none⟩)) (by kernel_rfl) (by kernel_rfl) (by kernel_rfl) (by kernel_rfl) (fun j wx ρ hC h0 hc => fldH rfl (by decide) ρ wx h0) ?_
          refine wpG_run1 (x := .tmp 85) (.pointer (some ⟨b12, 1, none⟩)) (aV x) (by kernel_rfl) (by kernel_rfl) (by kernel_rfl) (by kernel_rfl) (fun j wx ρ hC h0 hc => by simp [go_sem, h0, (PC.out j wx hC).1]) ?_
          refine wpG_move (.slice ao9 m c9) rfl (by kernel_rfl) (by kernel_rfl) (by kernel_rfl) ?_
          refine wpG_fn 0 (.bool ob) [ptr p, aV x, .slice ao9 m c9] (by kernel_rfl) (by kernel_rfl) rfl rfl (by kernel_rfl) (by kernel_rfl) (fun _ _ => by simp [go_sem]) (fun wx hC => C1.out wx hC) ?_
          refine wpG_move (ptr pw) rfl (by kernel_rfl) (by kernel_rfl) (by kernel_rfl) ?_
          refine wpG_run1 (x := .tmp 12) (ptr b12) (.pointer (some ⟨b12, 1, none⟩)) (by kernel_rfl) (by kernel_rfl) (by kernel_rfl) (by kernel_rfl) (fun j wx ρ hC h0 hc => fldH rfl (by decide) ρ wx h0) ?_
          refine wpG_run1 (x := .tmp 90) (.pointer (some ⟨b12, 1, none⟩)) (aV x) (by kernel_rfl) (by kernel_rfl) (by kernel_rfl) (by kernel_rfl) (fun j wx ρ hC h0 hc => by simp [go_sem, h0, (PC.out j wx hC).1]) ?_
          refine wpG_run1 (x := .tmp 12) (ptr b12) (.pointer (some ⟨b12, 2, none⟩)) (by kernel_rfl) (by kernel_rfl) (by kernel_rfl) (by kernel_rfl) (fun j wx ρ hC h0 hc => fldH rfl (by decide) ρ wx h0) ?_
          refine wpG_run1 (x := .tmp 92) (.pointer (some ⟨b12, 2, none⟩)) (.slice ad m cd) (by kernel_rfl) (by kernel_rfl) (by kernel_rfl) (by kernel_rfl) (fun j wx ρ hC h0 hc => by simp [go_sem, h0, (PC.out j wx hC).2.1]) ?_
          refine wpG_run1 (x := .tmp 93) (.slice ad m cd) (strV bs) (by kernel_rfl) (by kernel_rfl) (by kernel_rfl) (by kernel_rfl) (fun j wx ρ hC h0 hc => conv_bs rfl ρ (GV.out wx (PC.out j wx hC).2.2) h0) ?_
          refine wpG_fn 1 (.bool ob) [ptr pw, aV x, strV bs] (by kernel_rfl) (by kernel_rfl) rfl rfl (by kernel_rfl) (by kernel_rfl) (fun _ _ => by simp [go_sem]) (fun wx hC => C2.out wx hC) ?_
          refine wpG_run2 (x := .tmp 88) (y := .tmp 95) (.bool ob) (.bool ob) (.bool false) (by kernel_rfl) (by kernel_rfl) (by kernel_rfl) (by kernel_rfl) (by kernel_rfl) (fun j wx ρ hC h0 h1 hc => by simp [go_sem, h0, h1]) ?_
          refine wpG_end (fun w10 hw10 => ?_)
          simp only [setL, List.set_cons_zero, List.set_cons_succ]
          obtain ⟨v', vg', h10⟩ := hw10
          rw [HXX.out] at h10
          have H10 := Lib.hid h10
          clear h10 C1 C2 PC HD
          go_wp2_with (fail)
          go_loopw [99] (fun v99 ws => ∃ (j : Nat) (l' : List UInt8), j ≤ m ∧ v99 = .int .i64 (j : Int) ∧ Own.St w.heap.size w ws [AB ao9 m c9 l', AVals b12 34 cs, K.A p (HotM.offer h x bs), ARefH pw v' pq vg' (HotM.offer h x bs)]) (fun v99 _ => m - (intOf v99).toNat)
          case atStart => exact ⟨0, bs, Nat.zero_le _, rfl, H10.out⟩
          case round =>
            obtain ⟨j, l', hjm, rfl, hst⟩ := hrel
            have HH := Lib.hid hst
            clear hst H10
            by_cases hj : j < m
            · obtain ⟨g, rfl, cb, fb, hput⟩ := ab_byte HH.out 0 rfl j hj
              obtain ⟨c0, hc0⟩ : ∃ c, c = l'.getD j 0 := ⟨_, rfl⟩
              rw [← hc0] at cb
              have PUT := Lib.hid (hput (c0 ^^^ 85))
              have hxor := xor85 c0
              clear hput hc0
              go_wp2
              go_roundw
              case rel => exact ⟨j + 1, _, by omega, by go_num, PUT.out⟩
              case measure => simp [intOf]; omega
            · have HT := Lib.hid (HH.out.drop 2)
              simp only [List.drop_succ_cons, List.drop_zero] at HT
              clear HH
              obtain ⟨h2, hh2⟩ : ∃ y, y = HotM.offer h x bs := ⟨_, rfl⟩
              have OK2 : Hid (HotM.Ok h2) := by rw [hh2]; exact HotM.ok_offer OK.out HX.out BL.out
              rw [← hh2] at HT
              clear hh2
              obtain ⟨m, hm⟩ : ∃ y, y = (keys h2).length := ⟨_, rfl⟩
              have hm4 : m ≤ 1000000 := by
                have q1 := OK2.out.len
                have q2 := OK2.out.room
                have q3 : (keys h2).length = h2.L.length := List.length_map ..
                omega
              have HM := Lib.hid hm
              clear hm
              go_wp2_with (fail)
              refine (K.all HT.out.below HT.out OK2.out).mono ?_
              rw [← HM.out]
              rintro e wl ⟨al, cl, rfl, hl9⟩
              have HL := Lib.hid hl9
              clear hl9
              have AR := Lib.hid (allR_any (HL.out.front 2 rfl) OK2.out)
              go_wp2_with (fail)
              refine AR.out.mono ?_
              clear AR
              rw [← HM.out]
              rintro e wl2 ⟨al2, cl2, rfl, hl9⟩
              have r1 := rd_own hl9 2 rfl
              have r2 := rd_own hl9 0 rfl
              have C := sameR_any (keys h2) (keys h2) m m _ _ _ r1 r2 HM.out.symm HM.out.symm hm4
              rw [show (keys h2 == keys h2) = true by simp] at C
              have HC := Lib.hid C
              have HL2 := Lib.hid hl9
              clear hl9 C r1 r2
              go_wp2_with (fail)
              refine HC.out.mono ?_
              rintro e wl3 ⟨rfl, hl9⟩
              have HZ := Lib.hid (HL2.out.later hl9)
              clear hl9
              have HY := Lib.hid ((((HZ.out.drop 1).swap2.drop 1)).swap2)
              simp only at HY
              go_wp2_with (fail)
              go_roundw
              case rel => exact ⟨i + 1, h2, _, _, by omega, by go_num, HY.out, OK2.out⟩
              case measure => simp [intOf]; omega
        · skip
          go_wp2_with (first
              | (refine wpList_val rfl (idx_act rfl (show i < k from hik2) _ _ rfl rfl) ?_)
              | (refine wpList_val rfl (load_act cs CSL.out rfl _ (b := b) (k := o + i * 3) RA.out rfl) ?_)
              | (refine wpList_box2 boxy_act rfl rfl rfl (.tmp 12) (.tmp 65) rfl rfl cs (fun _ => rfl) (fun _ => rfl) CSL.out CS1.out HS.out ?_; intro b12 w6 h6; have HX6 := Lib.hid h6; have d0 := (h6.cellV 0 rfl 0 K0.out).1; have d1 := (h6.cellV 0 rfl 1 K1.out).1; have d2 := (h6.cellV 0 rfl 2 K2.out).1; clear h6)
              | (refine wpList_val rfl (rem_u8 3 (by decide) rfl (by decide) HF3.out _ _ rfl rfl) ?_))
          refine (K.get x HX6.out.below HX6.out.swap2 OK.out HX.out).mono ?_
          obtain ⟨is, his⟩ : ∃ y, y = isIn h x := ⟨_, rfl⟩
          obtain ⟨bx, hbx⟩ : ∃ y, y = bytesOf h x := ⟨_, rfl⟩
          obtain ⟨nb, hnb⟩ : ∃ y, y = bx.length := ⟨_, rfl⟩
          have hnb4 : nb ≤ 20000 := by rw [hnb, hbx]; exact bytes_len OK.out x
          rw [← his, ← hbx, ← hnb]
          rintro e w7 ⟨a7, c7, rfl, h7⟩
          have H7 := Lib.hid h7
          have d1' := (h7.cellV 2 rfl 1 K1.out).1
          have GR := Lib.hid (getR_any (h7.front 3 rfl) OK.out x)
          rw [← his, ← hbx] at GR
          clear h7 HS HX6 d2 d0 d1 his hbx hnb
          go_wp2_with (fail)
          refine GR.out.mono ?_
          clear GR
          rintro e w8 ⟨rfl, v', h8⟩
          have h9 := h8.swap2
          have st := given_str (given_own h9 0 rfl)
          have H9 := Lib.hid h9
          clear h8 h9 H7 d1'
          go_wp2_with (refine wpList_val rfl (neq_str rfl bx bx false (by simp) _ _ rfl rfl) ?_)
          clear st
          go_loopw [136] (fun v99 ws => ∃ (j : Nat) (l' : List UInt8), j ≤ nb ∧ v99 = .int .i64 (j : Int) ∧ Own.St w.heap.size w ws [AB a7 nb c7 l', ARefH pw v' pq vg (HotM.get h x), K.A p (HotM.get h x), AVals b12 34 cs]) (fun v99 _ => nb - (intOf v99).toNat)
          case atStart => exact ⟨0, bx, Nat.zero_le _, rfl, H9.out⟩
          case round =>
            obtain ⟨j, l', hjm, rfl, hst⟩ := hrel
            have HH := Lib.hid hst
            clear hst H9
            by_cases hj : j < nb
            · obtain ⟨g, rfl, cb, fb, hput⟩ := ab_byte HH.out 0 rfl j hj
              obtain ⟨c0, hc0⟩ : ∃ c, c = l'.getD j 0 := ⟨_, rfl⟩
              rw [← hc0] at cb
              have PUT := Lib.hid (hput (c0 ^^^ 85))
              have hxor := xor85 c0
              clear hput hc0
              go_wp2
              go_roundw
              case rel => exact ⟨j + 1, _, by omega, by go_num, PUT.out⟩
              case measure => simp [intOf]; omega
            · have HT := Lib.hid (((((HH.out.drop 1).front 2 rfl).drop 1)).swap2)
              simp only at HT
              clear HH
              obtain ⟨h2, hh2⟩ : ∃ y, y = HotM.get h x := ⟨_, rfl⟩
              have OK2 : Hid (HotM.Ok h2) := by rw [hh2]; exact ok_get OK.out HX.out
              rw [← hh2] at HT
              clear hh2
              obtain ⟨m, hm⟩ : ∃ y, y = (keys h2).length := ⟨_, rfl⟩
              have hm4 : m ≤ 1000000 := by
                have q1 := OK2.out.len
                have q2 := OK2.out.room
                have q3 : (keys h2).length = h2.L.length := List.length_map ..
                omega
              have HM := Lib.hid hm
              clear hm
              go_wp2_with (fail)
              refine (K.all HT.out.below HT.out OK2.out).mono ?_
              rw [← HM.out]
              rintro e wl ⟨al, cl, rfl, hl9⟩
              have HL := Lib.hid hl9
              clear hl9
              have AR := Lib.hid (allR_any (HL.out.front 2 rfl) OK2.out)
              go_wp2_with (fail)
              refine AR.out.mono ?_
              clear AR
              rw [← HM.out]
              rintro e wl2 ⟨al2, cl2, rfl, hl9⟩
              have r1 := rd_own hl9 2 rfl
              have r2 := rd_own hl9 0 rfl
              have C := sameR_any (keys h2) (keys h2) m m _ _ _ r1 r2 HM.out.symm HM.out.symm hm4
              rw [show (keys h2 == keys h2) = true by simp] at C
              have HC := Lib.hid C
              have HL2 := Lib.hid hl9
              clear hl9 C r1 r2
              go_wp2_with (fail)
              refine HC.out.mono ?_
              rintro e wl3 ⟨rfl, hl9⟩
              have HZ := Lib.hid (HL2.out.later hl9)
              clear hl9
              have HY := Lib.hid ((((HZ.out.drop 1).swap2.drop 1)).swap2)
              simp only at HY
              go_wp2_with (fail)
              go_roundw
              case rel => exact ⟨i + 1, h2, _, _, by omega, by go_num, HY.out, OK2.out⟩
              case measure => simp [intOf]; omega
        · skip
          go_wp2_with (first
              | (refine wpList_val rfl (idx_act rfl (show i < k from hik2) _ _ rfl rfl) ?_)
              | (refine wpList_val rfl (load_act cs CSL.out rfl _ (b := b) (k := o + i * 3) RA.out rfl) ?_)
              | (refine wpList_box2 boxy_act rfl rfl rfl (.tmp 12) (.tmp 65) rfl rfl cs (fun _ => rfl) (fun _ => rfl) CSL.out CS1.out HS.out ?_; intro b12 w6 h6; have HX6 := Lib.hid h6; have d0 := (h6.cellV 0 rfl 0 K0.out).1; have d1 := (h6.cellV 0 rfl 1 K1.out).1; have d2 := (h6.cellV 0 rfl 2 K2.out).1; clear h6)
              | (refine wpList_val rfl (rem_u8 3 (by decide) rfl (by decide) HF3.out _ _ rfl rfl) ?_))
          obtain ⟨is, his⟩ : ∃ y, y = isIn h x := ⟨_, rfl⟩
          have HIS := Lib.hid his
          clear his HS d0 d1 d2
          have HD := Lib.hid HX6.out.drew
          clear HX6
          have C1 : Hid (∀ wx, Own.St w.heap.size w wx [AVals b12 34 cs, K.A p h, ARefH pw v pq vg h] → Calls Try.prog 16 #[ptr p, aV x] wx fun e w' => e = .returned (.bool is) ∧ Own.St w.heap.size w w' [AVals b12 34 cs, K.A p (HotM.drop h x), ARefH pw v pq vg h]) := by
            intro wx hC
            rw [HIS.out]
            exact (K.drop x hC.below hC.swap2 OK.out HX.out).mono fun e w' hh => ⟨hh.1, hh.2.swap2⟩
          have C2 : Hid (∀ wx, Own.St w.heap.size w wx [AVals b12 34 cs, K.A p (HotM.drop h x), ARefH pw v pq vg h] → Calls Try.prog 17 #[ptr pw, aV x] wx fun e w' => e = .returned (.bool is) ∧ ∃ v', Own.St w.heap.size w w' [AVals b12 34 cs, K.A p (HotM.drop h x), ARefH pw v' pq vg (HotM.drop h x)]) := by
            intro wx hC
            rw [HIS.out]
            refine (dropH_any (hC.front 2 rfl) OK.out x).mono ?_
            rintro e w' ⟨e1, v', h9⟩
            exact ⟨e1, v', h9.perm (List.perm_middle (l₁ := [_, _])).symm⟩
          obtain ⟨CC, hCC⟩ : ∃ CC : Nat → World → Prop, CC = fun j wx => match j with | 0 => Own.St w.heap.size w wx [AVals b12 34 cs, K.A p h, ARefH pw v pq vg h] | 1 => Own.St w.heap.size w wx [AVals b12 34 cs, K.A p (HotM.drop h x), ARefH pw v pq vg h] | _ => ∃ v', Own.St w.heap.size w wx [AVals b12 34 cs, K.A p (HotM.drop h x), ARefH pw v' pq vg (HotM.drop h x)] := ⟨_, rfl⟩
          have PC : Hid (∀ j wx, CC j wx → wx.cell? ⟨b12, 1, none⟩ = some (aV x) ∧ True) := by
            intro j wx hC
            rw [hCC] at hC
            match j, hC with
            | 0, hh => exact ⟨(hh.cellV 0 rfl 1 K1.out).1, trivial⟩
            | 1, hh => exact ⟨(hh.cellV 0 rfl 1 K1.out).1, trivial⟩
            | _ + 2, ⟨_, hh⟩ => exact ⟨(hh.cellV 0 rfl 1 K1.out).1, trivial⟩
          have D1 : Hid (∀ wx, CC 0 wx → Calls Try.prog 16 #[ptr p, aV x] wx fun e w' => e = .returned (.bool is) ∧ CC 1 w') := by rw [hCC]; exact C1.out
          have D2 : Hid (∀ wx, CC 1 wx → Calls Try.prog 17 #[ptr pw, aV x] wx fun e w' => e = .returned (.bool is) ∧ CC 2 w') := by rw [hCC]; exact C2.out
          have ST : CC 0 w6.drew := by rw [hCC]; exact HD.out
          have FN : Hid (∀ wx, CC 2 wx → ∃ v', Own.St w.heap.size w wx [AVals b12 34 cs, K.A p (HotM.drop h x), ARefH pw v' pq vg (HotM.drop h x)]) := by rw [hCC]; exact fun wx hh => hh
          clear hCC C1 C2 HD
          go_simp
          refine wp_chain_list [3, 7] CC (by kernel_rfl) (by kernel_rfl) (by kernel_rfl) (by kernel_rfl) ST ?_
          refine wpG_move (ptr p) rfl (by kernel_rfl) (by kernel_rfl) (by kernel_rfl) ?_
          refine wpG_run1 (x := .tmp 12) (ptr b12) (.pointer (some ⟨b12, 1, none⟩)) (by kernel_rfl) (by kernel_rfl) (by kernel_rfl) (by kernel_rfl) (fun j wx ρ hC h0 hc => fldH rfl (by decide) ρ wx h0) ?_
          refine wpG_run1 (x := .tmp 70) (.pointer (some ⟨b12, 1, none⟩)) (aV x) (by kernel_rfl) (by kernel_rfl) (by kernel_rfl) (by kernel_rfl) (fun j wx ρ hC h0 hc => by simp [go_sem, h0, (PC.out j wx hC).1]) ?_
          refine wpG_fn 0 (.bool is) [ptr p, aV x] (by kernel_rfl) (by kernel_rfl) rfl rfl (by kernel_rfl) (by kernel_rfl) (fun _ _ => by simp [go_sem]) (fun wx hC => D1.out wx hC) ?_
          refine wpG_move (ptr pw) rfl (by kernel_rfl) (by kernel_rfl) (by kernel_rfl) ?_
          refine wpG_run1 (x := .tmp 12) (ptr b12) (.pointer (some ⟨b12, 1, none⟩)) (by kernel_rfl) (by kernel_rfl) (by kernel_rfl) (by kernel_rfl) (fun j wx ρ hC h0 hc => fldH rfl (by decide) ρ wx h0) ?_
          refine wpG_run1 (x := .tmp 74) (.pointer (some ⟨b12, 1, none⟩)) (aV x) (by kernel_rfl) (by kernel_rfl) (by kernel_rfl) (by kernel_rfl) (fun j wx ρ hC h0 hc => by simp [go_sem, h0, (PC.out j wx hC).1]) ?_
          refine wpG_fn 1 (.bool is) [ptr pw, aV x] (by kernel_rfl) (by kernel_rfl) rfl rfl (by kernel_rfl) (by kernel_rfl) (fun _ _ => by simp [go_sem]) (fun wx hC => D2.out wx hC) ?_
          refine wpG_run2 (x := .tmp 72) (y := .tmp 76) (.bool is) (.bool is) (.bool false) (by kernel_rfl) (by kernel_rfl) (by kernel_rfl) (by kernel_rfl) (by kernel_rfl) (fun j wx ρ hC h0 h1 hc => by simp [go_sem, h0, h1]) ?_
          refine wpG_end (fun w10 hw10 => ?_)
          simp only [setL, List.set_cons_zero, List.set_cons_succ]
          obtain ⟨v', h10⟩ := FN.out w10 hw10
          have HT := Lib.hid (h10.drop 1)
          simp only [List.drop_succ_cons, List.drop_zero] at HT
          clear h10 hw10 D1 D2 PC ST FN
          obtain ⟨h2, hh2⟩ : ∃ y, y = HotM.drop h x := ⟨_, rfl⟩
          have OK2 : Hid (HotM.Ok h2) := by rw [hh2]; exact HotM.ok_drop OK.out x
          rw [← hh2] at HT
          clear hh2
          obtain ⟨m, hm⟩ : ∃ y, y = (keys h2).length := ⟨_, rfl⟩
          have hm4 : m ≤ 1000000 := by
            have q1 := OK2.out.len
            have q2 := OK2.out.room
            have q3 : (keys h2).length = h2.L.length := List.length_map ..
            omega
          have HM := Lib.hid hm
          clear hm
          go_wp2_with (fail)
          refine (K.all HT.out.below HT.out OK2.out).mono ?_
          rw [← HM.out]
          rintro e wl ⟨al, cl, rfl, hl9⟩
          have HL := Lib.hid hl9
          clear hl9
          have AR := Lib.hid (allR_any (HL.out.front 2 rfl) OK2.out)
          go_wp2_with (fail)
          refine AR.out.mono ?_
          clear AR
          rw [← HM.out]
          rintro e wl2 ⟨al2, cl2, rfl, hl9⟩
          have r1 := rd_own hl9 2 rfl
          have r2 := rd_own hl9 0 rfl
          have C := sameR_any (keys h2) (keys h2) m m _ _ _ r1 r2 HM.out.symm HM.out.symm hm4
          rw [show (keys h2 == keys h2) = true by simp] at C
          have HC := Lib.hid C
          have HL2 := Lib.hid hl9
          clear hl9 C r1 r2
          go_wp2_with (fail)
          refine HC.out.mono ?_
          rintro e wl3 ⟨rfl, hl9⟩
          have HZ := Lib.hid (HL2.out.later hl9)
          clear hl9
          have HY := Lib.hid ((((HZ.out.drop 1).swap2.drop 1)).swap2)
          simp only at HY
          go_wp2_with (fail)
          go_roundw
          case rel => exact ⟨i + 1, h2, _, _, by omega, by go_num, HY.out, OK2.out⟩
          case measure => simp [intOf]; omega
      · go_wp2_with (fail)
        go_ret
        exact ⟨rfl, HS.out.below⟩
  · simp only [hm, if_false] at N1
    replace N1 := Lib.hid N1
    have hm2 : room < 0 ∨ (¬ room < 0 ∧ room > 4096) ∨ (¬ room < 0 ∧ ¬ room > 4096 ∧ known < 0) ∨ (¬ room < 0 ∧ ¬ room > 4096 ∧ ¬ known < 0 ∧ known > 4096) := by unfold mayBe at hm; simp at hm; omega
    clear hm hroom hknown HF HAT HLEN
    rcases hm2 with q1 | ⟨q1, q2⟩ | ⟨q1, q2, q3⟩ | ⟨q1, q2, q3, q4⟩
    all_goals
      go_enter Try.func3, Try.ntmps3
      go_wp2_with (fail)
      refine SH.out.mono ?_
      rintro e wa ⟨rfl, h1⟩
      have U1 := Lib.hid h1
      clear h1 SH
      go_wp2_with (fail)
      refine (N1.out _ U1.out).mono ?_
      clear N1
      rintro e wb ⟨rfl, h3⟩
      have H2 := Lib.hid h3
      clear h3
      go_wp2_with (fail)
      go_ret
      exact ⟨rfl, H2.out.below⟩
end Hot
end Go.Proofs.Ytameigmoabimiaa

end
section
namespace Go.Proofs.Ytameigmoabimiaa
open Go.RowKit Go.Own
namespace Hot
open Go.GhoM Go.HotM Byt Gho
open Rec (nat_u32)
theorem i64_in2 {a : Int} (h : (Lit.int .i64 a).wf = true) : -9223372036854775808 ≤ a ∧ a ≤ 9223372036854775807 := by
  simp [Lit.wf, IntKind.min, IntKind.max, IntKind.signed, IntKind.bits] at h
  omega
theorem in_nil (a : Int) (h : (Lit.int .u32 a).wf = true) (a1 : Option Addr) (len1 cap1 : Nat) (x1 : List UInt8) {w : World} (w1 : inBytes x1 w.heap.size w [.slice a1 len1 cap1]) (K : Kept w) :
    Calls Try.prog 6 #[.int .u32 a, .slice a1 len1 cap1] w (RetYes w) := by
  obtain ⟨u, rfl, hu⟩ := nat_u32 h
  exact walk_nil u hu a1 len1 cap1 x1 w1 K
theorem in_first (a0 : Int) (h0 : (Lit.int .u8 a0).wf = true) (b0 : Int) (g0 : (Lit.int .u8 b0).wf = true) (a1 : Option Addr) (len1 cap1 : Nat) (l : List ActD) (a2 : Int) (h2 : (Lit.int .u32 a2).wf = true) {w : World} (w1 : inSlice 3 inAct l w.heap.size w [.slice a1 len1 cap1]) (K : Kept w) :
    Calls Try.prog 7 #[.int .u8 a0, .int .u8 b0, .slice a1 len1 cap1, .int .u32 a2] w (RetYes w) := by
  obtain ⟨r, rfl, hr⟩ := u8_natH h0
  obtain ⟨q, rfl, hq⟩ := u8_natH g0
  obtain ⟨u, rfl, hu⟩ := nat_u32 h2
  exact walk_first r hr q hq a1 len1 cap1 l u hu w1 K
theorem in_twice (a0 : Int) (h0 : (Lit.int .u8 a0).wf = true) (b0 : Int) (g0 : (Lit.int .u8 b0).wf = true) (a1 : Option Addr) (len1 cap1 : Nat) (l : List ActD) (a2 : Int) (h2 : (Lit.int .u32 a2).wf = true) {w : World} (w1 : inSlice 3 inAct l w.heap.size w [.slice a1 len1 cap1]) (K : Kept w) :
    Calls Try.prog 5 #[.int .u8 a0, .int .u8 b0, .slice a1 len1 cap1, .int .u32 a2] w (RetYes w) := by
  obtain ⟨r, rfl, hr⟩ := u8_natH h0
  obtain ⟨q, rfl, hq⟩ := u8_natH g0
  obtain ⟨u, rfl, hu⟩ := nat_u32 h2
  exact walk_twice r hr q hq a1 len1 cap1 l u hu w1 K
theorem in_last (a0 : Int) (h0 : (Lit.int .u8 a0).wf = true) (b0 : Int) (g0 : (Lit.int .u8 b0).wf = true) (a1 : Option Addr) (len1 cap1 : Nat) (l : List ActD) {w : World} (w1 : inSlice 3 inAct l w.heap.size w [.slice a1 len1 cap1]) (K : Kept w) :
    Calls Try.prog 4 #[.int .u8 a0, .int .u8 b0, .slice a1 len1 cap1] w (RetYes w) := by
  obtain ⟨r, rfl, hr⟩ := u8_natH h0
  obtain ⟨q, rfl, hq⟩ := u8_natH g0
  exact walk_last r hr q hq a1 len1 cap1 l w1 K
theorem in_plays (a0 : Int) (h0 : (Lit.int .i64 a0).wf = true) (b0 : Int) (g0 : (Lit.int .i64 b0).wf = true) (a1 : Option Addr) (len1 cap1 : Nat) (l : List ActD) {w : World} (w1 : inSlice 3 inAct l w.heap.size w [.slice a1 len1 cap1]) (K : Kept w) :
    Calls Try.prog 3 #[.int .i64 a0, .int .i64 b0, .slice a1 len1 cap1] w (RetYes w) :=
  walk_plays a0 (i64_in2 h0) b0 (i64_in2 g0) a1 len1 cap1 l w1 K
end Hot
end Go.Proofs.Ytameigmoabimiaa

end
section
namespace Go.Proofs.Ytameigmoabimiaa
open Go.RowKit Go.Own Go.Maps
namespace Gha
open Go.GhoM Byt Gho
abbrev nilP : Value := .pointer none
theorem u32Keyed : Keyed Try.prog 31 := int_keyed Try.underlying31
def kl (a : Nat) : Lit := .int .u32 (a : Int)
theorem kl_inj {a b : Nat} (h : kl a = kl b) : a = b := by
  unfold kl at h
  simp only [Lit.int.injEq, true_and] at h
  exact Int.ofNat.inj h
theorem key_of {a : Nat} (h : a < 4294967296) : keyOf Try.prog 31 (.int .u32 (a : Int)) = some (kl a) :=
  keyOf_int_mk Try.underlying31 (by simp [Lit.wf, IntKind.min, IntKind.max, IntKind.signed, IntKind.bits]; omega)
theorem mapT : Try.prog.underlying 73 = some (.map 31 74) := Try.underlying73
theorem zeroN (w : World) : (zeroValue 74).run Try.prog w = .ok nilP w := by kernel_rfl
abbrev KV := Nat × Value
/-- the map reads as the list -/
structure Reads (D : DataW Value) (s : List KV) : Prop where
  has : ∀ k, Maps.has D k = true ↔ ∃ e ∈ s, kl e.1 = k
  at_ : ∀ e ∈ s, ∀ zd, D.atKey (kl e.1) zd = .held e.2
  size : Maps.size D = s.length
def AOf (b : Nat) (s : List KV) : Asn where
  holds S w := (∃ D : DataW Value, w.ownsMap Try.prog 31 rawV b s.length D ∧ Reads D s) ∧ ∀ k, S k ↔ k = b
  keep h gs hd := by
    obtain ⟨⟨D, ⟨es, clock, hb, r⟩, h1⟩, h5⟩ := h
    exact ⟨⟨D, ⟨es, clock, (gs.block _ (lt_of_block hb) (hd _ ((h5 _).2 rfl))).trans hb, r⟩, h1⟩, h5⟩
  lt h k hk := by
    obtain ⟨⟨D, hm, h1⟩, h5⟩ := h
    rw [(h5 k).1 hk]
    exact hm.lt
theorem tight {w : World} {b n : Nat} {D : DataW Value} (h : w.ownsMap Try.prog 31 rawV b n D) {s : List KV} (hr : Reads D s) : w.ownsMap Try.prog 31 rawV b s.length D := by
  obtain ⟨es, clock, hb, F, _, rfl⟩ := h
  refine ⟨es, clock, hb, F, ?_, rfl⟩
  rw [← hr.size]
  simp [Maps.size, length_sorted]
theorem Reads.perm {D : DataW Value} {s t : List KV} (h : Reads D s) (p : s.Perm t) : Reads D t :=
  ⟨fun k => by rw [h.has]; exact ⟨fun ⟨e, he, hk⟩ => ⟨e, p.mem_iff.1 he, hk⟩, fun ⟨e, he, hk⟩ => ⟨e, p.mem_iff.2 he, hk⟩⟩, fun e he => h.at_ e (p.mem_iff.2 he), by rw [h.size, p.length_eq]⟩
theorem reads_nil : Reads (.map []) [] := ⟨fun k => by simp [Maps.has], fun e he => (by cases he), rfl⟩
section
variable {B : Nat} {w0 w : World} {Ps : List Asn} {b : Nat} {s t : List KV}
theorem aof_permH {S : Nat → Prop} (h : (AOf b s).holds S w) (p : s.Perm t) : (AOf b t).holds S w := by
  obtain ⟨⟨D, hm, hr⟩, h5⟩ := h
  exact ⟨⟨D, tight hm (hr.perm p), hr.perm p⟩, h5⟩
theorem mapMakeN (H : Own.St B w0 w Ps) : ∃ w' b, (Instr.makeMap 73 none).run Try.prog w = .ok (.map (some b)) w' ∧ Own.St B w0 w' (AOf b [] :: Ps) :=
  ⟨_, w.heap.size, run_makeMap 73 w, H.new (S' := fun k => k = w.heap.size) (AOf _ []) ⟨⟨.map [], World.ownsMap_made w _ _ _, reads_nil⟩, fun k => Iff.rfl⟩ (((Step.refl (fun _ => False) w).alloc (.map #[] 0)).to (fun k hk => .inr (Nat.le_of_eq hk.symm)))⟩
/-- a look-up: what stands there -/
theorem mapLookN (H : Own.St B w0 w Ps) (i : Nat) (hi : Ps[i]? = some (AOf b s)) {a : Nat} (ha : a < 4294967296) {v : Value} (hv : (a, v) ∈ s) :
    (Instr.lookup 73 (.map (some b)) (.int .u32 (a : Int)) false).run Try.prog w = .ok v w := by
  obtain ⟨S, ⟨⟨D, hm, hr⟩, _⟩, _⟩ := H.at i hi
  obtain ⟨v', ps, hrun, hv'⟩ := hm.lookup u32Keyed mapT (zeroN w) (zd := .held nilP) (zp := []) rfl (key_of ha)
  rw [hr.at_ _ hv] at hv'
  simp only [rawV, Option.some.injEq, Prod.mk.injEq, DataW.held.injEq] at hv'
  rw [hrun, hv'.1]
/-- .. nothing -/
theorem mapLook0N (H : Own.St B w0 w Ps) (i : Nat) (hi : Ps[i]? = some (AOf b s)) {a : Nat} (ha : a < 4294967296) (hn : ∀ e ∈ s, e.1 ≠ a) :
    (Instr.lookup 73 (.map (some b)) (.int .u32 (a : Int)) false).run Try.prog w = .ok nilP w := by
  obtain ⟨S, ⟨⟨D, hm, hr⟩, _⟩, _⟩ := H.at i hi
  obtain ⟨v', ps, hrun, hv'⟩ := hm.lookup u32Keyed mapT (zeroN w) (zd := .held nilP) (zp := []) rfl (key_of ha)
  have hh : Maps.has D (kl a) = false := by
    cases h : Maps.has D (kl a)
    · rfl
    · obtain ⟨e, he, hk⟩ := (hr.has _).1 h
      exact absurd (kl_inj hk) (hn e he)
  rw [atKey_of_not_has hh] at hv'
  simp only [rawV, Option.some.injEq, Prod.mk.injEq, DataW.held.injEq] at hv'
  rw [hrun, hv'.1]
/-- a value is put: at an address that is not there, or in the first one's place -/
theorem mapPutN (H : Own.St B w0 w Ps) (i : Nat) {a : Nat} {v : Value} {pres : Bool} (hi : Ps[i]? = some (AOf b (if pres then (a, v) :: s else s))) (ha : a < 4294967296) (hn : ∀ e ∈ s, e.1 ≠ a) (hl : s.length ≤ 1000000) (v' : Value) :
    ∃ w', (Instr.mapUpdate 73 (.map (some b)) (.int .u32 (a : Int)) v').run Try.prog w = .ok () w' ∧ Own.St B w0 w' (Ps.set i (AOf b ((a, v') :: s))) := by
  obtain ⟨S, ⟨⟨D, hm, hr⟩, h5⟩, _, put⟩ := H.at i hi
  obtain ⟨w2, hrun2, hm2, g2⟩ := hm.update u32Keyed mapT (by unfold maxLen; split <;> simp <;> omega) (key_of ha) (val := v') (d := .held v') (ps := []) rfl
  have ht := hm.tidy u32Keyed
  have hD := ht.isMap
  have hkey : WideAt.IsKeyLit (kl a) := u32Keyed.key (key_of ha)
  have hmem : ∀ e : KV, e.1 ≠ a → (e ∈ (if pres then (a, v) :: s else s) ↔ e ∈ s) := by
    intro e he
    cases pres
    · exact Iff.rfl
    · simp only [if_true, List.mem_cons]
      exact ⟨fun h => h.elim (fun h => absurd (by rw [h]) he) id, .inr⟩
  have hr2 : Reads (D.put (kl a) (.held v')) ((a, v') :: s) := by
    refine ⟨fun k => ?_, fun e he zd => ?_, ?_⟩
    · by_cases hk : k = kl a
      · rw [hk, has_put_same hD hkey]
        exact ⟨fun _ => ⟨(a, v'), List.mem_cons_self .., rfl⟩, fun _ => rfl⟩
      · rw [has_put_other hk, hr.has]
        constructor
        · rintro ⟨e, he, e2⟩
          exact ⟨e, List.mem_cons_of_mem _ ((hmem e (fun h => hk (by rw [← e2, h]))).1 he), e2⟩
        · rintro ⟨e, he, e2⟩
          rcases List.mem_cons.1 he with h | h
          · rw [h] at e2; exact absurd e2.symm hk
          · exact ⟨e, (hmem e (hn e h)).2 h, e2⟩
    · rcases List.mem_cons.1 he with h | h
      · rw [h]; exact atKey_put_same hD hkey _ _
      · have hne : kl e.1 ≠ kl a := fun h2 => hn e h (kl_inj h2)
        rw [atKey_put_other hne]
        exact hr.at_ e ((hmem e (hn e h)).2 h) zd
    · rw [size_put ht, hr.size]
      cases pres
      · have hh : Maps.has D (kl a) = false := by
          cases h : Maps.has D (kl a)
          · rfl
          · obtain ⟨e, he, hk⟩ := (hr.has _).1 h
            exact absurd (kl_inj hk) (hn e (by simpa using he))
        rw [hh]
        simp
      · have hh : Maps.has D (kl a) = true := (hr.has _).2 ⟨(a, v), by simp, rfl⟩
        rw [hh]
        simp
  refine ⟨w2, hrun2, put (fun k => k = b) w2 (AOf b ((a, v') :: s)) ⟨⟨_, tight hm2 hr2, hr2⟩, fun k => Iff.rfl⟩ ?_⟩
  exact ⟨g2.os, g2.tape, g2.output, g2.size, fun k hk hn => g2.block k hk (fun e => hn ((h5 k).2 (by cases e; rfl))), fun k hk => .inl ((h5 k).2 hk)⟩
/-- the first one is deleted -/
theorem mapDelN (H : Own.St B w0 w Ps) (i : Nat) {a : Nat} {v : Value} (hi : Ps[i]? = some (AOf b ((a, v) :: s))) (ha : a < 4294967296) (hn : ∀ e ∈ s, e.1 ≠ a) (ty : TypeId) :
    ∃ w', (Builtin.delete_ #[73, 31] ty #[.map (some b), .int .u32 (a : Int)]).run Try.prog w = .ok (.tuple #[]) w' ∧ Own.St B w0 w' (Ps.set i (AOf b s)) := by
  obtain ⟨S, ⟨⟨D, hm, hr⟩, h5⟩, _, put⟩ := H.at i hi
  obtain ⟨w2, hrun2, hm2, turn⟩ := hm.drop u32Keyed mapT (key_of ha) ty
  have g2 := turn.grown
  have ht := hm.tidy u32Keyed
  have hr2 : Reads (D.del (kl a)) s := by
    refine ⟨fun k => ?_, fun e he zd => ?_, ?_⟩
    · by_cases hk : k = kl a
      · rw [hk, has_del_same]
        refine ⟨fun h => (by cases h), ?_⟩
        rintro ⟨e, he, e2⟩
        exact absurd (kl_inj e2) (hn e he)
      · rw [has_del_other hk, hr.has]
        constructor
        · rintro ⟨e, he, e2⟩
          rcases List.mem_cons.1 he with h | h
          · rw [h] at e2; exact absurd e2.symm hk
          · exact ⟨e, h, e2⟩
        · rintro ⟨e, he, e2⟩
          exact ⟨e, List.mem_cons_of_mem _ he, e2⟩
    · have hne : kl e.1 ≠ kl a := fun h2 => hn e he (kl_inj h2)
      rw [atKey_del_other hne]
      exact hr.at_ e (List.mem_cons_of_mem _ he) zd
    · have h := size_del (k := kl a) ht
      have hh : Maps.has D (kl a) = true := (hr.has _).2 ⟨(a, v), by simp, rfl⟩
      rw [hh, hr.size] at h
      simp at h
      omega
  refine ⟨w2, hrun2, put (fun k => k = b) w2 (AOf b s) ⟨⟨_, tight hm2 hr2, hr2⟩, fun k => Iff.rfl⟩ ?_⟩
  exact ⟨g2.os, g2.tape, g2.output, g2.size, fun k hk hn => g2.block k hk (fun e => hn ((h5 k).2 (by cases e; rfl))), fun k hk => .inl ((h5 k).2 hk)⟩
end
theorem mapLenN {B : Nat} {w0 w : World} {Ps : List Asn} {b : Nat} {s : List KV} (H : Own.St B w0 w Ps) (i : Nat) (hi : Ps[i]? = some (AOf b s)) (ty : TypeId) :
    (Builtin.len_ #[73] ty #[.map (some b)]).run Try.prog w = .ok (.int .i64 (s.length : Int)) w := by
  obtain ⟨S, ⟨⟨D, hm, hr⟩, _⟩, _⟩ := H.at i hi
  rw [hm.len mapT ty, hr.size]
/-! ### the chain -/
/-- an address and its node's block -/
abbrev Nd := Nat × Nat
def kv (e : Nd) : KV := (e.1, ptr e.2)
/-- the first node; od: what stands behind them -/
def hdV : List Nd → Value → Value
  | [], od => od
  | e :: _, _ => ptr e.2
/-- the last node; nw: what stands ahead of them -/
def laV : Value → List Nd → Value
  | nw, [] => nw
  | _, e :: es => laV (ptr e.2) es
def nodeA (e : Nd) (od nw : Value) : Asn := AVals e.2 80 [aV e.1, od, nw]
def seg : Value → List Nd → Value → List Asn
  | _, [], _ => []
  | nw, e :: es, od => nodeA e (hdV es od) nw :: seg (ptr e.2) es od
theorem hd_app (od : Value) : ∀ es fs, hdV (es ++ fs) od = hdV es (hdV fs od)
  | [], _ => rfl
  | _ :: _, _ => rfl
theorem la_app : ∀ (nw : Value) (es fs : List Nd), laV nw (es ++ fs) = laV (laV nw es) fs
  | _, [], _ => rfl
  | _, e :: es, fs => la_app (ptr e.2) es fs
theorem seg_app (od : Value) : ∀ (nw : Value) (es fs : List Nd), seg nw (es ++ fs) od = seg nw es (hdV fs od) ++ seg (laV nw es) fs od
  | _, [], _ => rfl
  | nw, e :: es, fs => by
    show nodeA e (hdV (es ++ fs) od) nw :: seg (ptr e.2) (es ++ fs) od = nodeA e (hdV es (hdV fs od)) nw :: (seg (ptr e.2) es (hdV fs od) ++ seg (laV (ptr e.2) es) fs od)
    rw [hd_app, seg_app od (ptr e.2) es fs]
theorem seg_snoc (nw : Value) (es : List Nd) (e : Nd) (od : Value) : seg nw (es ++ [e]) od = seg nw es (ptr e.2) ++ [nodeA e od (laV nw es)] := seg_app od nw es [e]
theorem la_snoc (nw : Value) (es : List Nd) (e : Nd) : laV nw (es ++ [e]) = ptr e.2 := la_app nw es [e]
abbrev lC (room : Nat) (v1 v2 : Value) (m : Nat) : List Value := [.int .i64 (room : Int), v1, v2, .map (some m)]
/-- the landed list at p: its nodes es, the latest one first -/
def partsL (p m room : Nat) (es : List Nd) : List Asn := AVals p 76 (lC room (hdV es nilP) (laV nilP es) m) :: AOf m (es.map kv) :: seg nilP es nilP
def AEs (p m room : Nat) (es : List Nd) : Asn := AJoin (partsL p m room es)
/-- the landed list at p -/
def A (p : Nat) (g : G) : Asn := AEx (α := { x : Nat × List Nd // x.2.map (·.1) = g.L }) fun x => AEs p x.1.1 g.room x.1.2
section
variable {B : Nat} {w0 w : World} {Ps : List Asn} {p m room : Nat} {g : G} {es : List Nd}
theorem A_open (H : Own.St B w0 w (A p g :: Ps)) : ∃ m es, es.map (·.1) = g.L ∧ Own.St B w0 w (AEs p m g.room es :: Ps) := by
  obtain ⟨x, h⟩ := H.openE
  exact ⟨x.1.1, x.1.2, x.2, h⟩
theorem A_close (he : es.map (·.1) = g.L) (hr : room = g.room) (H : Own.St B w0 w (AEs p m room es :: Ps)) : Own.St B w0 w (A p g :: Ps) := by
  subst hr
  exact Own.St.closeE (α := { x : Nat × List Nd // x.2.map (·.1) = g.L }) (P := fun x => AEs p x.1.1 g.room x.1.2) ⟨(m, es), he⟩ H
theorem es_open (H : Own.St B w0 w (AEs p m room es :: Ps)) : Own.St B w0 w (AVals p 76 (lC room (hdV es nilP) (laV nilP es) m) :: AOf m (es.map kv) :: (seg nilP es nilP ++ Ps)) := H.openJ
theorem es_close (H : Own.St B w0 w (AVals p 76 (lC room (hdV es nilP) (laV nilP es) m) :: AOf m (es.map kv) :: (seg nilP es nilP ++ Ps))) : Own.St B w0 w (AEs p m room es :: Ps) := Own.St.closeJ (Qs := partsL p m room es) H
end
end Gha
end Go.Proofs.Ytameigmoabimiaa

end
section
namespace Go.Proofs.Ytameigmoabimiaa
open Go.RowKit Go.Own Go.Maps
namespace Gha
open Go.GhoM Byt Gho
theorem fldL {o : Oper} {X : Operand} {k : Nat} (ho : o.op = .fieldAddr 76 X k) (hk : k < 4) {p : Nat} (ρ : Operand → Value) (w : World) (h0 : ρ X = ptr p) : (execOp ρ o).run Try.prog w = .ok (.value (.pointer (some ⟨p, k, none⟩))) w := by
  match k, hk with
  | 0, _ => simp [execOp, ho, h0, go_sem, add_of]
  | 1, _ => simp [execOp, ho, h0, go_sem, add_of]
  | 2, _ => simp [execOp, ho, h0, go_sem, add_of]
  | 3, _ => simp [execOp, ho, h0, go_sem, add_of]
theorem fldN {o : Oper} {X : Operand} {k : Nat} (ho : o.op = .fieldAddr 80 X k) (hk : k < 3) {p : Nat} (ρ : Operand → Value) (w : World) (h0 : ρ X = ptr p) : (execOp ρ o).run Try.prog w = .ok (.value (.pointer (some ⟨p, k, none⟩))) w := by
  match k, hk with
  | 0, _ => simp [execOp, ho, h0, go_sem, add_of]
  | 1, _ => simp [execOp, ho, h0, go_sem, add_of]
  | 2, _ => simp [execOp, ho, h0, go_sem, add_of]
theorem nilC {o : Oper} {X : Operand} (ho : o.op = .nilCheck X) {p : Nat} (ρ : Operand → Value) (w : World) (h0 : ρ X = ptr p) : (execOp ρ o).run Try.prog w = .ok (.value (ptr p)) w := by
  simp [execOp, ho, h0, go_sem]
theorem del_E {P : Program} {o : Oper} {x y : Tmp} {t1 t2 : TypeId} (ho : o.op = .call { callee := .builtin .delete, args := #[.tmp x, .tmp y], argTypes := #[t1, t2] }) {ρ : Operand → Value} {w w' : World} {m k : Value} (h0 : ρ (.tmp x) = m) (h1 : ρ (.tmp y) = k) (hrun : (Builtin.delete_ #[t1, t2] o.type #[m, k]).run P w = .ok (.tuple #[]) w') : (execOp ρ o).run P w = .ok (.value (.tuple #[])) w' := by
  unfold execOp
  simp [ho, h0, h1, resolve, invoke, builtin, hrun, Result.andThen]
theorem sto_E {P : Program} {o : Oper} {x y : Tmp} {t : TypeId} (ho : o.op = .store t (.tmp x) (.tmp y)) {ρ : Operand → Value} {w w' : World} {a v : Value} (h0 : ρ (.tmp x) = a) (h1 : ρ (.tmp y) = v) (hrun : (Instr.storeAt t a v).run P w = .ok () w') : (execOp ρ o).run P w = .ok .skip w' := by
  unfold execOp
  simp [ho, h0, h1, hrun, Result.andThen]
section
variable {B : Nat} {w0 w : World} {Ps : List Asn} {p m room a b : Nat} {s : List KV}
set_option maxHeartbeats 3200000 in
theorem rem_one (ha : a < 4294967296) (hs : ∀ e ∈ s, e.1 ≠ a)
    (H : Own.St B w0 w (AVals p 76 (lC room (ptr b) (ptr b) m) :: AOf m ((a, ptr b) :: s) :: AVals b 80 [aV a, nilP, nilP] :: (Ps))) :
    Calls Try.prog 33 #[ptr p, ptr b] w fun e w' => e = .returned (.tuple #[]) ∧ Own.St B w0 w' (AVals p 76 (lC room nilP nilP m) :: AOf m s :: Ps) := by
  have c0 := (H.cellV 2 rfl 2 rfl).1
  have c1 := (H.cellV 2 rfl 1 rfl).1
  obtain ⟨c2, c2z⟩ := H.cellV 0 rfl 1 rfl
  have h1 := H.storeV 0 rfl 1 (nilP)
  simp only [List.set_cons_zero, List.set_cons_succ] at h1
  obtain ⟨W1, hW1⟩ : ∃ W, W = w.setCell ⟨p, 1, none⟩ (nilP) := ⟨_, rfl⟩
  rw [← hW1] at h1
  have E1 := hW1.symm
  have c3 := (h1.cellV 2 rfl 1 rfl).1
  have c4 := (h1.cellV 2 rfl 2 rfl).1
  obtain ⟨c5, c5z⟩ := h1.cellV 0 rfl 2 rfl
  have h2 := h1.storeV 0 rfl 2 (nilP)
  simp only [List.set_cons_zero, List.set_cons_succ] at h2
  obtain ⟨W2, hW2⟩ : ∃ W, W = W1.setCell ⟨p, 2, none⟩ (nilP) := ⟨_, rfl⟩
  rw [← hW2] at h2
  have E2 := hW2.symm
  have K2 := Lib.hid h2
  clear H h1 h2 hW1 hW2
  go_enter Try.func33, Try.ntmps33
  go_wp2_with (fail)
  clear c0 c1 c2 c2z c3 c4 c5 c5z E1 E2
  have g2 := K2.out.drew
  have D1 := Lib.hid (g2.cellV 0 rfl 3 rfl).1
  have D2 := Lib.hid (g2.cellV 2 rfl 0 rfl).1
  obtain ⟨wz, ez, kz⟩ := mapDelN g2 1 (v := ptr b) (s := s) rfl ha hs 0
  simp only [List.set_cons_zero, List.set_cons_succ] at kz
  have EZ := Lib.hid ez
  have KZ := Lib.hid kz
  clear g2 ez kz K2 hs
  refine wp_chain_list [8] (fun j wx => wx = match j with | 0 => W2.drew | _ => wz) (by kernel_rfl) (by kernel_rfl) (by kernel_rfl) (by kernel_rfl) rfl ?_
  refine wpG_move (ptr p) rfl (by kernel_rfl) (by kernel_rfl) (by kernel_rfl) ?_
  refine wpG_run1 (x := .tmp 48) (ptr p) (ptr p) (by kernel_rfl) (by kernel_rfl) (by kernel_rfl) (by kernel_rfl) (fun j wx ρ hC h0 hc => nilC rfl ρ wx h0) ?_
  refine wpG_run1 (x := .tmp 49) (ptr p) (.pointer (some ⟨p, 3, none⟩)) (by kernel_rfl) (by kernel_rfl) (by kernel_rfl) (by kernel_rfl) (fun j wx ρ hC h0 hc => fldL rfl (by decide) ρ wx h0) ?_
  refine wpG_runU1 (x := .tmp 50) 0 (.pointer (some ⟨p, 3, none⟩)) (.map (some m)) (by kernel_rfl) (by kernel_rfl) (by kernel_rfl) (by kernel_rfl) (by kernel_rfl) (by kernel_rfl) (fun j wx ρ hj hC h0 hc => ?_) ?_
  · obtain rfl : j = 0 := by omega
    subst hC
    simp [go_sem, h0, D1.out]
  refine wpG_move (ptr b) rfl (by kernel_rfl) (by kernel_rfl) (by kernel_rfl) ?_
  refine wpG_run1 (x := .tmp 52) (ptr b) (ptr b) (by kernel_rfl) (by kernel_rfl) (by kernel_rfl) (by kernel_rfl) (fun j wx ρ hC h0 hc => nilC rfl ρ wx h0) ?_
  refine wpG_run1 (x := .tmp 53) (ptr b) (.pointer (some ⟨b, 0, none⟩)) (by kernel_rfl) (by kernel_rfl) (by kernel_rfl) (by kernel_rfl) (fun j wx ρ hC h0 hc => fldN rfl (by decide) ρ wx h0) ?_
  refine wpG_runU1 (x := .tmp 54) 0 (.pointer (some ⟨b, 0, none⟩)) (.int .u32 (a : Int)) (by kernel_rfl) (by kernel_rfl) (by kernel_rfl) (by kernel_rfl) (by kernel_rfl) (by kernel_rfl) (fun j wx ρ hj hC h0 hc => ?_) ?_
  · obtain rfl : j = 0 := by omega
    subst hC
    simp [go_sem, h0, D2.out]
  refine wpG_op 0 (.tuple #[]) _ (.inl rfl) (by kernel_rfl) (by kernel_rfl) (by kernel_rfl) (by kernel_rfl) (by kernel_rfl) (fun wx hC => ⟨wz, by subst hC; exact del_E (m := .map (some m)) (k := .int .u32 (a : Int)) rfl (by kernel_rfl) (by kernel_rfl) EZ.out, rfl⟩) ?_
  refine wpG_end (fun w3 hw3 => ?_)
  obtain rfl : w3 = wz := hw3
  simp only [setL, List.set_cons_zero, List.set_cons_succ]
  go_wp2
  go_end0
  refine ⟨rfl, ?_⟩
  have h := (KZ.out.perm (List.perm_middle (l₁ := [_, _]))).drop 1
  simp only [List.drop_succ_cons, List.drop_zero] at h
  exact h
set_option maxHeartbeats 3200000 in
theorem rem_first (v2 : Value) (f : Nat) (x y : Value) (ha : a < 4294967296) (hs : ∀ e ∈ s, e.1 ≠ a)
    (H : Own.St B w0 w (AVals p 76 (lC room (ptr b) v2 m) :: AOf m ((a, ptr b) :: s) :: AVals b 80 [aV a, ptr f, nilP] :: AVals f 80 [x, y, ptr b] :: (Ps))) :
    Calls Try.prog 33 #[ptr p, ptr b] w fun e w' => e = .returned (.tuple #[]) ∧ Own.St B w0 w' (AVals p 76 (lC room (ptr f) v2 m) :: AOf m s :: AVals f 80 [x, y, nilP] :: Ps) := by
  have c0 := (H.cellV 2 rfl 2 rfl).1
  have c1 := (H.cellV 2 rfl 1 rfl).1
  obtain ⟨c2, c2z⟩ := H.cellV 0 rfl 1 rfl
  have h1 := H.storeV 0 rfl 1 (ptr f)
  simp only [List.set_cons_zero, List.set_cons_succ] at h1
  obtain ⟨W1, hW1⟩ : ∃ W, W = w.setCell ⟨p, 1, none⟩ (ptr f) := ⟨_, rfl⟩
  rw [← hW1] at h1
  have E1 := hW1.symm
  have c3 := (h1.cellV 2 rfl 1 rfl).1
  have K1 := Lib.hid h1
  clear H h1 hW1
  go_enter Try.func33, Try.ntmps33
  go_wp2_with (fail)
  clear c0 c1 c2 c2z c3 E1
  have g1 := K1.out.drew
  have D1 := Lib.hid (g1.cellV 2 rfl 1 rfl).1
  have D2 := Lib.hid (g1.cellV 2 rfl 2 rfl).1
  have D3 := Lib.hid (g1.cellV 3 rfl 2 rfl)
  have h2 := g1.storeV 3 rfl 2 (nilP)
  simp only [List.set_cons_zero, List.set_cons_succ] at h2
  obtain ⟨W2, hW2⟩ : ∃ W, W = W1.drew.setCell ⟨f, 2, none⟩ (nilP) := ⟨_, rfl⟩
  rw [← hW2] at h2
  have E2 := Lib.hid hW2
  have K2 := Lib.hid h2
  clear K1 g1 h2 hW2
  refine wp_chain_list [10] (fun j wx => wx = match j with | 0 => W1.drew | _ => W2) (by kernel_rfl) (by kernel_rfl) (by kernel_rfl) (by kernel_rfl) rfl ?_
  refine wpG_move (ptr b) rfl (by kernel_rfl) (by kernel_rfl) (by kernel_rfl) ?_
  refine wpG_run1 (x := .tmp 38) (ptr b) (ptr b) (by kernel_rfl) (by kernel_rfl) (by kernel_rfl) (by kernel_rfl) (fun j wx ρ hC h0 hc => nilC rfl ρ wx h0) ?_
  refine wpG_run1 (x := .tmp 39) (ptr b) (.pointer (some ⟨b, 1, none⟩)) (by kernel_rfl) (by kernel_rfl) (by kernel_rfl) (by kernel_rfl) (fun j wx ρ hC h0 hc => fldN rfl (by decide) ρ wx h0) ?_
  refine wpG_runU1 (x := .tmp 40) 0 (.pointer (some ⟨b, 1, none⟩)) (ptr f) (by kernel_rfl) (by kernel_rfl) (by kernel_rfl) (by kernel_rfl) (by kernel_rfl) (by kernel_rfl) (fun j wx ρ hj hC h0 hc => ?_) ?_
  · obtain rfl : j = 0 := by omega
    subst hC
    simp [go_sem, h0, D1.out]
  refine wpG_move (ptr b) rfl (by kernel_rfl) (by kernel_rfl) (by kernel_rfl) ?_
  refine wpG_run1 (x := .tmp 42) (ptr b) (ptr b) (by kernel_rfl) (by kernel_rfl) (by kernel_rfl) (by kernel_rfl) (fun j wx ρ hC h0 hc => nilC rfl ρ wx h0) ?_
  refine wpG_run1 (x := .tmp 43) (ptr b) (.pointer (some ⟨b, 2, none⟩)) (by kernel_rfl) (by kernel_rfl) (by kernel_rfl) (by kernel_rfl) (fun j wx ρ hC h0 hc => fldN rfl (by decide) ρ wx h0) ?_
  refine wpG_runU1 (x := .tmp 44) 0 (.pointer (some ⟨b, 2, none⟩)) (nilP) (by kernel_rfl) (by kernel_rfl) (by kernel_rfl) (by kernel_rfl) (by kernel_rfl) (by kernel_rfl) (fun j wx ρ hj hC h0 hc => ?_) ?_
  · obtain rfl : j = 0 := by omega
    subst hC
    simp [go_sem, h0, D2.out]
  refine wpG_run1 (x := .tmp 41) (ptr f) (ptr f) (by kernel_rfl) (by kernel_rfl) (by kernel_rfl) (by kernel_rfl) (fun j wx ρ hC h0 hc => nilC rfl ρ wx h0) ?_
  refine wpG_run1 (x := .tmp 46) (ptr f) (.pointer (some ⟨f, 2, none⟩)) (by kernel_rfl) (by kernel_rfl) (by kernel_rfl) (by kernel_rfl) (fun j wx ρ hC h0 hc => fldN rfl (by decide) ρ wx h0) ?_
  refine wpG_op 0 undef _ (.inr ⟨rfl, rfl⟩) (by kernel_rfl) (by kernel_rfl) (by kernel_rfl) (by kernel_rfl) (by kernel_rfl) (fun wx hC => ⟨W2, by subst hC; exact sto_E (a := .pointer (some ⟨f, 2, none⟩)) (v := nilP) rfl (by kernel_rfl) (by kernel_rfl) (by simp [go_sem, D3.out.1, D3.out.2, E2.out]), rfl⟩) ?_
  refine wpG_end (fun w2 hw2 => ?_)
  obtain rfl : w2 = W2 := hw2
  simp only [setL, List.set_cons_zero, List.set_cons_succ]
  clear D1 D2 D3 E2
  go_wp2_with (fail)
  have g2 := K2.out.drew
  have D1 := Lib.hid (g2.cellV 0 rfl 3 rfl).1
  have D2 := Lib.hid (g2.cellV 2 rfl 0 rfl).1
  obtain ⟨wz, ez, kz⟩ := mapDelN g2 1 (v := ptr b) (s := s) rfl ha hs 0
  simp only [List.set_cons_zero, List.set_cons_succ] at kz
  have EZ := Lib.hid ez
  have KZ := Lib.hid kz
  clear g2 ez kz K2 hs
  refine wp_chain_list [8] (fun j wx => wx = match j with | 0 => w2.drew | _ => wz) (by kernel_rfl) (by kernel_rfl) (by kernel_rfl) (by kernel_rfl) rfl ?_
  refine wpG_move (ptr p) rfl (by kernel_rfl) (by kernel_rfl) (by kernel_rfl) ?_
  refine wpG_run1 (x := .tmp 48) (ptr p) (ptr p) (by kernel_rfl) (by kernel_rfl) (by kernel_rfl) (by kernel_rfl) (fun j wx ρ hC h0 hc => nilC rfl ρ wx h0) ?_
  refine wpG_run1 (x := .tmp 49) (ptr p) (.pointer (some ⟨p, 3, none⟩)) (by kernel_rfl) (by kernel_rfl) (by kernel_rfl) (by kernel_rfl) (fun j wx ρ hC h0 hc => fldL rfl (by decide) ρ wx h0) ?_
  refine wpG_runU1 (x := .tmp 50) 0 (.pointer (some ⟨p, 3, none⟩)) (.map (some m)) (by kernel_rfl) (by kernel_rfl) (by kernel_rfl) (by kernel_rfl) (by kernel_rfl) (by kernel_rfl) (fun j wx ρ hj hC h0 hc => ?_) ?_
  · obtain rfl : j = 0 := by omega
    subst hC
    simp [go_sem, h0, D1.out]
  refine wpG_move (ptr b) rfl (by kernel_rfl) (by kernel_rfl) (by kernel_rfl) ?_
  refine wpG_run1 (x := .tmp 52) (ptr b) (ptr b) (by kernel_rfl) (by kernel_rfl) (by kernel_rfl) (by kernel_rfl) (fun j wx ρ hC h0 hc => nilC rfl ρ wx h0) ?_
  refine wpG_run1 (x := .tmp 53) (ptr b) (.pointer (some ⟨b, 0, none⟩)) (by kernel_rfl) (by kernel_rfl) (by kernel_rfl) (by kernel_rfl) (fun j wx ρ hC h0 hc => fldN rfl (by decide) ρ wx h0) ?_
  refine wpG_runU1 (x := .tmp 54) 0 (.pointer (some ⟨b, 0, none⟩)) (.int .u32 (a : Int)) (by kernel_rfl) (by kernel_rfl) (by kernel_rfl) (by kernel_rfl) (by kernel_rfl) (by kernel_rfl) (fun j wx ρ hj hC h0 hc => ?_) ?_
  · obtain rfl : j = 0 := by omega
    subst hC
    simp [go_sem, h0, D2.out]
  refine wpG_op 0 (.tuple #[]) _ (.inl rfl) (by kernel_rfl) (by kernel_rfl) (by kernel_rfl) (by kernel_rfl) (by kernel_rfl) (fun wx hC => ⟨wz, by subst hC; exact del_E (m := .map (some m)) (k := .int .u32 (a : Int)) rfl (by kernel_rfl) (by kernel_rfl) EZ.out, rfl⟩) ?_
  refine wpG_end (fun w3 hw3 => ?_)
  obtain rfl : w3 = wz := hw3
  simp only [setL, List.set_cons_zero, List.set_cons_succ]
  go_wp2
  go_end0
  refine ⟨rfl, ?_⟩
  have h := (KZ.out.perm (List.perm_middle (l₁ := [_, _]))).drop 1
  simp only [List.drop_succ_cons, List.drop_zero] at h
  exact h
set_option maxHeartbeats 3200000 in
theorem rem_last (v1 : Value) (d : Nat) (x y : Value) (ha : a < 4294967296) (hs : ∀ e ∈ s, e.1 ≠ a)
    (H : Own.St B w0 w (AVals p 76 (lC room v1 (ptr b) m) :: AOf m ((a, ptr b) :: s) :: AVals b 80 [aV a, nilP, ptr d] :: AVals d 80 [x, ptr b, y] :: (Ps))) :
    Calls Try.prog 33 #[ptr p, ptr b] w fun e w' => e = .returned (.tuple #[]) ∧ Own.St B w0 w' (AVals p 76 (lC room v1 (ptr d) m) :: AOf m s :: AVals d 80 [x, nilP, y] :: Ps) := by
  have c0 := (H.cellV 2 rfl 2 rfl).1
  have K0 := Lib.hid H
  clear H
  go_enter Try.func33, Try.ntmps33
  go_wp2_with (fail)
  clear c0
  have g0 := K0.out.drew
  have D1 := Lib.hid (g0.cellV 2 rfl 2 rfl).1
  have D2 := Lib.hid (g0.cellV 2 rfl 1 rfl).1
  have D3 := Lib.hid (g0.cellV 3 rfl 1 rfl)
  have h1 := g0.storeV 3 rfl 1 (nilP)
  simp only [List.set_cons_zero, List.set_cons_succ] at h1
  obtain ⟨W1, hW1⟩ : ∃ W, W = w.drew.setCell ⟨d, 1, none⟩ (nilP) := ⟨_, rfl⟩
  rw [← hW1] at h1
  have E1 := Lib.hid hW1
  have K1 := Lib.hid h1
  clear K0 g0 h1 hW1
  refine wp_chain_list [10] (fun j wx => wx = match j with | 0 => w.drew | _ => W1) (by kernel_rfl) (by kernel_rfl) (by kernel_rfl) (by kernel_rfl) rfl ?_
  refine wpG_move (ptr b) rfl (by kernel_rfl) (by kernel_rfl) (by kernel_rfl) ?_
  refine wpG_run1 (x := .tmp 16) (ptr b) (ptr b) (by kernel_rfl) (by kernel_rfl) (by kernel_rfl) (by kernel_rfl) (fun j wx ρ hC h0 hc => nilC rfl ρ wx h0) ?_
  refine wpG_run1 (x := .tmp 17) (ptr b) (.pointer (some ⟨b, 2, none⟩)) (by kernel_rfl) (by kernel_rfl) (by kernel_rfl) (by kernel_rfl) (fun j wx ρ hC h0 hc => fldN rfl (by decide) ρ wx h0) ?_
  refine wpG_runU1 (x := .tmp 18) 0 (.pointer (some ⟨b, 2, none⟩)) (ptr d) (by kernel_rfl) (by kernel_rfl) (by kernel_rfl) (by kernel_rfl) (by kernel_rfl) (by kernel_rfl) (fun j wx ρ hj hC h0 hc => ?_) ?_
  · obtain rfl : j = 0 := by omega
    subst hC
    simp [go_sem, h0, D1.out]
  refine wpG_move (ptr b) rfl (by kernel_rfl) (by kernel_rfl) (by kernel_rfl) ?_
  refine wpG_run1 (x := .tmp 20) (ptr b) (ptr b) (by kernel_rfl) (by kernel_rfl) (by kernel_rfl) (by kernel_rfl) (fun j wx ρ hC h0 hc => nilC rfl ρ wx h0) ?_
  refine wpG_run1 (x := .tmp 21) (ptr b) (.pointer (some ⟨b, 1, none⟩)) (by kernel_rfl) (by kernel_rfl) (by kernel_rfl) (by kernel_rfl) (fun j wx ρ hC h0 hc => fldN rfl (by decide) ρ wx h0) ?_
  refine wpG_runU1 (x := .tmp 22) 0 (.pointer (some ⟨b, 1, none⟩)) (nilP) (by kernel_rfl) (by kernel_rfl) (by kernel_rfl) (by kernel_rfl) (by kernel_rfl) (by kernel_rfl) (fun j wx ρ hj hC h0 hc => ?_) ?_
  · obtain rfl : j = 0 := by omega
    subst hC
    simp [go_sem, h0, D2.out]
  refine wpG_run1 (x := .tmp 19) (ptr d) (ptr d) (by kernel_rfl) (by kernel_rfl) (by kernel_rfl) (by kernel_rfl) (fun j wx ρ hC h0 hc => nilC rfl ρ wx h0) ?_
  refine wpG_run1 (x := .tmp 24) (ptr d) (.pointer (some ⟨d, 1, none⟩)) (by kernel_rfl) (by kernel_rfl) (by kernel_rfl) (by kernel_rfl) (fun j wx ρ hC h0 hc => fldN rfl (by decide) ρ wx h0) ?_
  refine wpG_op 0 undef _ (.inr ⟨rfl, rfl⟩) (by kernel_rfl) (by kernel_rfl) (by kernel_rfl) (by kernel_rfl) (by kernel_rfl) (fun wx hC => ⟨W1, by subst hC; exact sto_E (a := .pointer (some ⟨d, 1, none⟩)) (v := nilP) rfl (by kernel_rfl) (by kernel_rfl) (by simp [go_sem, D3.out.1, D3.out.2, E1.out]), rfl⟩) ?_
  refine wpG_end (fun w1 hw1 => ?_)
  obtain rfl : w1 = W1 := hw1
  simp only [setL, List.set_cons_zero, List.set_cons_succ]
  clear D1 D2 D3 E1
  have c3 := (K1.out.cellV 2 rfl 1 rfl).1
  have c4 := (K1.out.cellV 2 rfl 2 rfl).1
  obtain ⟨c5, c5z⟩ := K1.out.cellV 0 rfl 2 rfl
  have h2 := K1.out.storeV 0 rfl 2 (ptr d)
  simp only [List.set_cons_zero, List.set_cons_succ] at h2
  obtain ⟨W2, hW2⟩ : ∃ W, W = w1.setCell ⟨p, 2, none⟩ (ptr d) := ⟨_, rfl⟩
  rw [← hW2] at h2
  have E2 := hW2.symm
  have K2 := Lib.hid h2
  clear K1 h2 hW2
  go_wp2_with (fail)
  clear c3 c4 c5 c5z E2
  have g2 := K2.out.drew
  have D1 := Lib.hid (g2.cellV 0 rfl 3 rfl).1
  have D2 := Lib.hid (g2.cellV 2 rfl 0 rfl).1
  obtain ⟨wz, ez, kz⟩ := mapDelN g2 1 (v := ptr b) (s := s) rfl ha hs 0
  simp only [List.set_cons_zero, List.set_cons_succ] at kz
  have EZ := Lib.hid ez
  have KZ := Lib.hid kz
  clear g2 ez kz K2 hs
  refine wp_chain_list [8] (fun j wx => wx = match j with | 0 => W2.drew | _ => wz) (by kernel_rfl) (by kernel_rfl) (by kernel_rfl) (by kernel_rfl) rfl ?_
  refine wpG_move (ptr p) rfl (by kernel_rfl) (by kernel_rfl) (by kernel_rfl) ?_
  refine wpG_run1 (x := .tmp 48) (ptr p) (ptr p) (by kernel_rfl) (by kernel_rfl) (by kernel_rfl) (by kernel_rfl) (fun j wx ρ hC h0 hc => nilC rfl ρ wx h0) ?_
  refine wpG_run1 (x := .tmp 49) (ptr p) (.pointer (some ⟨p, 3, none⟩)) (by kernel_rfl) (by kernel_rfl) (by kernel_rfl) (by kernel_rfl) (fun j wx ρ hC h0 hc => fldL rfl (by decide) ρ wx h0) ?_
  refine wpG_runU1 (x := .tmp 50) 0 (.pointer (some ⟨p, 3, none⟩)) (.map (some m)) (by kernel_rfl) (by kernel_rfl) (by kernel_rfl) (by kernel_rfl) (by kernel_rfl) (by kernel_rfl) (fun j wx ρ hj hC h0 hc => ?_) ?_
  · obtain rfl : j = 0 := by omega
    subst hC
    simp [go_sem, h0, D1.out]
  refine wpG_move (ptr b) rfl (by kernel_rfl) (by kernel_rfl) (by kernel_rfl) ?_
  refine wpG_run1 (x := .tmp 52) (ptr b) (ptr b) (by kernel_rfl) (by kernel_rfl) (by kernel_rfl) (by kernel_rfl) (fun j wx ρ hC h0 hc => nilC rfl ρ wx h0) ?_
  refine wpG_run1 (x := .tmp 53) (ptr b) (.pointer (some ⟨b, 0, none⟩)) (by kernel_rfl) (by kernel_rfl) (by kernel_rfl) (by kernel_rfl) (fun j wx ρ hC h0 hc => fldN rfl (by decide) ρ wx h0) ?_
  refine wpG_runU1 (x := .tmp 54) 0 (.pointer (some ⟨b, 0, none⟩)) (.int .u32 (a : Int)) (by kernel_rfl) (by kernel_rfl) (by kernel_rfl) (by kernel_rfl) (by kernel_rfl) (by kernel_rfl) (fun j wx ρ hj hC h0 hc => ?_) ?_
  · obtain rfl : j = 0 := by omega
    subst hC
    simp [go_sem, h0, D2.out]
  refine wpG_op 0 (.tuple #[]) _ (.inl rfl) (by kernel_rfl) (by kernel_rfl) (by kernel_rfl) (by kernel_rfl) (by kernel_rfl) (fun wx hC => ⟨wz, by subst hC; exact del_E (m := .map (some m)) (k := .int .u32 (a : Int)) rfl (by kernel_rfl) (by kernel_rfl) EZ.out, rfl⟩) ?_
  refine wpG_end (fun w3 hw3 => ?_)
  obtain rfl : w3 = wz := hw3
  simp only [setL, List.set_cons_zero, List.set_cons_succ]
  go_wp2
  go_end0
  refine ⟨rfl, ?_⟩
  have h := (KZ.out.perm (List.perm_middle (l₁ := [_, _]))).drop 1
  simp only [List.drop_succ_cons, List.drop_zero] at h
  exact h
set_option maxHeartbeats 3200000 in
theorem rem_mid (v1 v2 : Value) (d : Nat) (x y : Value) (f : Nat) (x2 y2 : Value) (ha : a < 4294967296) (hs : ∀ e ∈ s, e.1 ≠ a)
    (H : Own.St B w0 w (AVals p 76 (lC room v1 v2 m) :: AOf m ((a, ptr b) :: s) :: AVals b 80 [aV a, ptr f, ptr d] :: AVals d 80 [x, ptr b, y] :: AVals f 80 [x2, y2, ptr b] :: (Ps))) :
    Calls Try.prog 33 #[ptr p, ptr b] w fun e w' => e = .returned (.tuple #[]) ∧ Own.St B w0 w' (AVals p 76 (lC room v1 v2 m) :: AOf m s :: AVals d 80 [x, ptr f, y] :: AVals f 80 [x2, y2, ptr d] :: Ps) := by
  have c0 := (H.cellV 2 rfl 2 rfl).1
  have K0 := Lib.hid H
  clear H
  go_enter Try.func33, Try.ntmps33
  go_wp2_with (fail)
  clear c0
  have g0 := K0.out.drew
  have D1 := Lib.hid (g0.cellV 2 rfl 2 rfl).1
  have D2 := Lib.hid (g0.cellV 2 rfl 1 rfl).1
  have D3 := Lib.hid (g0.cellV 3 rfl 1 rfl)
  have h1 := g0.storeV 3 rfl 1 (ptr f)
  simp only [List.set_cons_zero, List.set_cons_succ] at h1
  obtain ⟨W1, hW1⟩ : ∃ W, W = w.drew.setCell ⟨d, 1, none⟩ (ptr f) := ⟨_, rfl⟩
  rw [← hW1] at h1
  have E1 := Lib.hid hW1
  have K1 := Lib.hid h1
  clear K0 g0 h1 hW1
  refine wp_chain_list [10] (fun j wx => wx = match j with | 0 => w.drew | _ => W1) (by kernel_rfl) (by kernel_rfl) (by kernel_rfl) (by kernel_rfl) rfl ?_
  refine wpG_move (ptr b) rfl (by kernel_rfl) (by kernel_rfl) (by kernel_rfl) ?_
  refine wpG_run1 (x := .tmp 16) (ptr b) (ptr b) (by kernel_rfl) (by kernel_rfl) (by kernel_rfl) (by kernel_rfl) (fun j wx ρ hC h0 hc => nilC rfl ρ wx h0) ?_
  refine wpG_run1 (x := .tmp 17) (ptr b) (.pointer (some ⟨b, 2, none⟩)) (by kernel_rfl) (by kernel_rfl) (by kernel_rfl) (by kernel_rfl) (fun j wx ρ hC h0 hc => fldN rfl (by decide) ρ wx h0) ?_
  refine wpG_runU1 (x := .tmp 18) 0 (.pointer (some ⟨b, 2, none⟩)) (ptr d) (by kernel_rfl) (by kernel_rfl) (by kernel_rfl) (by kernel_rfl) (by kernel_rfl) (by kernel_rfl) (fun j wx ρ hj hC h0 hc => ?_) ?_
  · obtain rfl : j = 0 := by omega
    subst hC
    simp [go_sem, h0, D1.out]
  refine wpG_move (ptr b) rfl (by kernel_rfl) (by kernel_rfl) (by kernel_rfl) ?_
  refine wpG_run1 (x := .tmp 20) (ptr b) (ptr b) (by kernel_rfl) (by kernel_rfl) (by kernel_rfl) (by kernel_rfl) (fun j wx ρ hC h0 hc => nilC rfl ρ wx h0) ?_
  refine wpG_run1 (x := .tmp 21) (ptr b) (.pointer (some ⟨b, 1, none⟩)) (by kernel_rfl) (by kernel_rfl) (by kernel_rfl) (by kernel_rfl) (fun j wx ρ hC h0 hc => fldN rfl (by decide) ρ wx h0) ?_
  refine wpG_runU1 (x := .tmp 22) 0 (.pointer (some ⟨b, 1, none⟩)) (ptr f) (by kernel_rfl) (by kernel_rfl) (by kernel_rfl) (by kernel_rfl) (by kernel_rfl) (by kernel_rfl) (fun j wx ρ hj hC h0 hc => ?_) ?_
  · obtain rfl : j = 0 := by omega
    subst hC
    simp [go_sem, h0, D2.out]
  refine wpG_run1 (x := .tmp 19) (ptr d) (ptr d) (by kernel_rfl) (by kernel_rfl) (by kernel_rfl) (by kernel_rfl) (fun j wx ρ hC h0 hc => nilC rfl ρ wx h0) ?_
  refine wpG_run1 (x := .tmp 24) (ptr d) (.pointer (some ⟨d, 1, none⟩)) (by kernel_rfl) (by kernel_rfl) (by kernel_rfl) (by kernel_rfl) (fun j wx ρ hC h0 hc => fldN rfl (by decide) ρ wx h0) ?_
  refine wpG_op 0 undef _ (.inr ⟨rfl, rfl⟩) (by kernel_rfl) (by kernel_rfl) (by kernel_rfl) (by kernel_rfl) (by kernel_rfl) (fun wx hC => ⟨W1, by subst hC; exact sto_E (a := .pointer (some ⟨d, 1, none⟩)) (v := ptr f) rfl (by kernel_rfl) (by kernel_rfl) (by simp [go_sem, D3.out.1, D3.out.2, E1.out]), rfl⟩) ?_
  refine wpG_end (fun w1 hw1 => ?_)
  obtain rfl : w1 = W1 := hw1
  simp only [setL, List.set_cons_zero, List.set_cons_succ]
  clear D1 D2 D3 E1
  have c3 := (K1.out.cellV 2 rfl 1 rfl).1
  go_wp2_with (fail)
  clear c3
  have g1 := K1.out.drew
  have D1 := Lib.hid (g1.cellV 2 rfl 1 rfl).1
  have D2 := Lib.hid (g1.cellV 2 rfl 2 rfl).1
  have D3 := Lib.hid (g1.cellV 4 rfl 2 rfl)
  have h2 := g1.storeV 4 rfl 2 (ptr d)
  simp only [List.set_cons_zero, List.set_cons_succ] at h2
  obtain ⟨W2, hW2⟩ : ∃ W, W = w1.drew.setCell ⟨f, 2, none⟩ (ptr d) := ⟨_, rfl⟩
  rw [← hW2] at h2
  have E2 := Lib.hid hW2
  have K2 := Lib.hid h2
  clear K1 g1 h2 hW2
  refine wp_chain_list [10] (fun j wx => wx = match j with | 0 => w1.drew | _ => W2) (by kernel_rfl) (by kernel_rfl) (by kernel_rfl) (by kernel_rfl) rfl ?_
  refine wpG_move (ptr b) rfl (by kernel_rfl) (by kernel_rfl) (by kernel_rfl) ?_
  refine wpG_run1 (x := .tmp 38) (ptr b) (ptr b) (by kernel_rfl) (by kernel_rfl) (by kernel_rfl) (by kernel_rfl) (fun j wx ρ hC h0 hc => nilC rfl ρ wx h0) ?_
  refine wpG_run1 (x := .tmp 39) (ptr b) (.pointer (some ⟨b, 1, none⟩)) (by kernel_rfl) (by kernel_rfl) (by kernel_rfl) (by kernel_rfl) (fun j wx ρ hC h0 hc => fldN rfl (by decide) ρ wx h0) ?_
  refine wpG_runU1 (x := .tmp 40) 0 (.pointer (some ⟨b, 1, none⟩)) (ptr f) (by kernel_rfl) (by kernel_rfl) (by kernel_rfl) (by kernel_rfl) (by kernel_rfl) (by kernel_rfl) (fun j wx ρ hj hC h0 hc => ?_) ?_
  · obtain rfl : j = 0 := by omega
    subst hC
    simp [go_sem, h0, D1.out]
  refine wpG_move (ptr b) rfl (by kernel_rfl) (by kernel_rfl) (by kernel_rfl) ?_
  refine wpG_run1 (x := .tmp 42) (ptr b) (ptr b) (by kernel_rfl) (by kernel_rfl) (by kernel_rfl) (by kernel_rfl) (fun j wx ρ hC h0 hc => nilC rfl ρ wx h0) ?_
  refine wpG_run1 (x := .tmp 43) (ptr b) (.pointer (some ⟨b, 2, none⟩)) (by kernel_rfl) (by kernel_rfl) (by kernel_rfl) (by kernel_rfl) (fun j wx ρ hC h0 hc => fldN rfl (by decide) ρ wx h0) ?_
  refine wpG_runU1 (x := .tmp 44) 0 (.pointer (some ⟨b, 2, none⟩)) (ptr d) (by kernel_rfl) (by kernel_rfl) (by kernel_rfl) (by kernel_rfl) (by kernel_rfl) (by kernel_rfl) (fun j wx ρ hj hC h0 hc => ?_) ?_
  · obtain rfl : j = 0 := by omega
    subst hC
    simp [go_sem, h0, D2.out]
  refine wpG_run1 (x := .tmp 41) (ptr f) (ptr f) (by kernel_rfl) (by kernel_rfl) (by kernel_rfl) (by kernel_rfl) (fun j wx ρ hC h0 hc => nilC rfl ρ wx h0) ?_
  refine wpG_run1 (x := .tmp 46) (ptr f) (.pointer (some ⟨f, 2, none⟩)) (by kernel_rfl) (by kernel_rfl) (by kernel_rfl) (by kernel_rfl) (fun j wx ρ hC h0 hc => fldN rfl (by decide) ρ wx h0) ?_
  refine wpG_op 0 undef _ (.inr ⟨rfl, rfl⟩) (by kernel_rfl) (by kernel_rfl) (by kernel_rfl) (by kernel_rfl) (by kernel_rfl) (fun wx hC => ⟨W2, by subst hC; exact sto_E (a := .pointer (some ⟨f, 2, none⟩)) (v := ptr d) rfl (by kernel_rfl) (by kernel_rfl) (by simp [go_sem, D3.out.1, D3.out.2, E2.out]), rfl⟩) ?_
  refine wpG_end (fun w2 hw2 => ?_)
  obtain rfl : w2 = W2 := hw2
  simp only [setL, List.set_cons_zero, List.set_cons_succ]
  clear D1 D2 D3 E2
  go_wp2_with (fail)
  have g2 := K2.out.drew
  have D1 := Lib.hid (g2.cellV 0 rfl 3 rfl).1
  have D2 := Lib.hid (g2.cellV 2 rfl 0 rfl).1
  obtain ⟨wz, ez, kz⟩ := mapDelN g2 1 (v := ptr b) (s := s) rfl ha hs 0
  simp only [List.set_cons_zero, List.set_cons_succ] at kz
  have EZ := Lib.hid ez
  have KZ := Lib.hid kz
  clear g2 ez kz K2 hs
  refine wp_chain_list [8] (fun j wx => wx = match j with | 0 => w2.drew | _ => wz) (by kernel_rfl) (by kernel_rfl) (by kernel_rfl) (by kernel_rfl) rfl ?_
  refine wpG_move (ptr p) rfl (by kernel_rfl) (by kernel_rfl) (by kernel_rfl) ?_
  refine wpG_run1 (x := .tmp 48) (ptr p) (ptr p) (by kernel_rfl) (by kernel_rfl) (by kernel_rfl) (by kernel_rfl) (fun j wx ρ hC h0 hc => nilC rfl ρ wx h0) ?_
  refine wpG_run1 (x := .tmp 49) (ptr p) (.pointer (some ⟨p, 3, none⟩)) (by kernel_rfl) (by kernel_rfl) (by kernel_rfl) (by kernel_rfl) (fun j wx ρ hC h0 hc => fldL rfl (by decide) ρ wx h0) ?_
  refine wpG_runU1 (x := .tmp 50) 0 (.pointer (some ⟨p, 3, none⟩)) (.map (some m)) (by kernel_rfl) (by kernel_rfl) (by kernel_rfl) (by kernel_rfl) (by kernel_rfl) (by kernel_rfl) (fun j wx ρ hj hC h0 hc => ?_) ?_
  · obtain rfl : j = 0 := by omega
    subst hC
    simp [go_sem, h0, D1.out]
  refine wpG_move (ptr b) rfl (by kernel_rfl) (by kernel_rfl) (by kernel_rfl) ?_
  refine wpG_run1 (x := .tmp 52) (ptr b) (ptr b) (by kernel_rfl) (by kernel_rfl) (by kernel_rfl) (by kernel_rfl) (fun j wx ρ hC h0 hc => nilC rfl ρ wx h0) ?_
  refine wpG_run1 (x := .tmp 53) (ptr b) (.pointer (some ⟨b, 0, none⟩)) (by kernel_rfl) (by kernel_rfl) (by kernel_rfl) (by kernel_rfl) (fun j wx ρ hC h0 hc => fldN rfl (by decide) ρ wx h0) ?_
  refine wpG_runU1 (x := .tmp 54) 0 (.pointer (some ⟨b, 0, none⟩)) (.int .u32 (a : Int)) (by kernel_rfl) (by kernel_rfl) (by kernel_rfl) (by kernel_rfl) (by kernel_rfl) (by kernel_rfl) (fun j wx ρ hj hC h0 hc => ?_) ?_
  · obtain rfl : j = 0 := by omega
    subst hC
    simp [go_sem, h0, D2.out]
  refine wpG_op 0 (.tuple #[]) _ (.inl rfl) (by kernel_rfl) (by kernel_rfl) (by kernel_rfl) (by kernel_rfl) (by kernel_rfl) (fun wx hC => ⟨wz, by subst hC; exact del_E (m := .map (some m)) (k := .int .u32 (a : Int)) rfl (by kernel_rfl) (by kernel_rfl) EZ.out, rfl⟩) ?_
  refine wpG_end (fun w3 hw3 => ?_)
  obtain rfl : w3 = wz := hw3
  simp only [setL, List.set_cons_zero, List.set_cons_succ]
  go_wp2
  go_end0
  refine ⟨rfl, ?_⟩
  have h := (KZ.out.perm (List.perm_middle (l₁ := [_, _]))).drop 1
  simp only [List.drop_succ_cons, List.drop_zero] at h
  exact h
end
end Gha
end Go.Proofs.Ytameigmoabimiaa

end
section
namespace Go.Proofs.Ytameigmoabimiaa
open Go.RowKit Go.Own Go.Maps
namespace Gha
open Go.GhoM Byt Gho
section
variable {B : Nat} {w0 w : World} {Ps : List Asn} {p m room a b : Nat} {s t : List KV} {es : List Nd}
theorem aof_perm (H : Own.St B w0 w (AOf b s :: Ps)) (e : s.Perm t) : Own.St B w0 w (AOf b t :: Ps) := by
  obtain ⟨S, hS, _, put⟩ := H.at 0 rfl
  exact put S w _ (aof_permH hS e) (Step.refl S w)
theorem aof_perm1 {P : Asn} (H : Own.St B w0 w (P :: AOf b s :: Ps)) (e : s.Perm t) : Own.St B w0 w (P :: AOf b t :: Ps) :=
  (aof_perm (H.perm (List.Perm.swap _ _ _)) e).perm (List.Perm.swap _ _ _)
theorem kv_ne {pre post : List Nd} (hn : ((pre ++ (a, b) :: post).map (·.1)).Nodup) : ∀ e ∈ (pre ++ post).map kv, e.1 ≠ a := by
  intro e he
  obtain ⟨x, hx, rfl⟩ := List.mem_map.1 he
  rw [List.map_append, List.map_cons] at hn
  have h1 := (List.perm_middle (l₁ := pre.map (·.1)) (l₂ := post.map (·.1)) (a := a)).nodup_iff.1 hn
  have h2 := (List.nodup_cons.1 h1).1
  rw [← List.map_append] at h2
  exact fun e => h2 (List.mem_map.2 ⟨x, hx, e⟩)
theorem kv_not (hn : a ∉ es.map (·.1)) : ∀ e ∈ es.map kv, e.1 ≠ a := by
  intro e he
  obtain ⟨x, hx, rfl⟩ := List.mem_map.1 he
  exact fun e => hn (List.mem_map.2 ⟨x, hx, e⟩)
theorem kv_perm (pre post : List Nd) : ((pre ++ (a, b) :: post).map kv).Perm ((a, ptr b) :: (pre ++ post).map kv) := by
  rw [List.map_append, List.map_cons, List.map_append]
  exact List.perm_middle
/-- a node is taken out -/
theorem remove_any {pre post : List Nd} (H : Own.St B w0 w (AEs p m room (pre ++ (a, b) :: post) :: Ps)) (hn : ((pre ++ (a, b) :: post).map (·.1)).Nodup) (ha : a < 4294967296) :
    Calls Try.prog 33 #[ptr p, ptr b] w fun e w' => e = .returned (.tuple #[]) ∧ Own.St B w0 w' (AEs p m room (pre ++ post) :: Ps) := by
  have hs := kv_ne hn
  have h0 := aof_perm1 (es_open H) (kv_perm pre post)
  rcases List.eq_nil_or_concat pre with rfl | ⟨pr, d, rfl⟩
  · cases post with
    | nil =>
      refine (rem_one (Ps := Ps) (s := []) ha hs h0).mono ?_
      rintro e w' ⟨rfl, h⟩
      exact ⟨rfl, es_close (es := []) h⟩
    | cons f po =>
      refine (rem_first (Ps := seg (ptr f.2) po nilP ++ Ps) (s := (f :: po).map kv) (laV (ptr f.2) po) f.2 (aV f.1) (hdV po nilP) ha hs h0).mono ?_
      rintro e w' ⟨rfl, h⟩
      exact ⟨rfl, es_close (es := f :: po) h⟩
  · rw [List.concat_eq_append] at *
    have e1 : hdV (pr ++ [d] ++ (a, b) :: post) nilP = hdV pr (ptr d.2) := by rw [List.append_assoc, hd_app]; rfl
    have e2 : laV nilP (pr ++ [d] ++ (a, b) :: post) = laV (ptr b) post := by rw [la_app]; rfl
    have e3 : seg nilP (pr ++ [d] ++ (a, b) :: post) nilP = seg nilP pr (ptr d.2) ++ (nodeA d (ptr b) (laV nilP pr) :: nodeA (a, b) (hdV post nilP) (ptr d.2) :: seg (ptr b) post nilP) := by
      rw [List.append_assoc, seg_app]
      rfl
    rw [e1, e2, e3] at h0
    cases post with
    | nil =>
      have hp : Own.St B w0 w (AVals p 76 (lC room (hdV pr (ptr d.2)) (ptr b) m) :: AOf m ((a, ptr b) :: (pr ++ [d] ++ []).map kv) :: AVals b 80 [aV a, nilP, ptr d.2] :: AVals d.2 80 [aV d.1, ptr b, laV nilP pr] :: (seg nilP pr (ptr d.2) ++ Ps)) := by
        refine h0.perm ((List.Perm.cons _ (List.Perm.cons _ ?_)))
        rw [List.append_assoc]
        refine List.perm_middle.trans (((List.perm_middle (a := nodeA (a, b) nilP (ptr d.2))).cons _).trans ?_)
        exact List.Perm.swap _ _ _
      refine (rem_last (s := (pr ++ [d] ++ []).map kv) _ d.2 (aV d.1) (laV nilP pr) ha hs hp).mono ?_
      rintro e w' ⟨rfl, h⟩
      refine ⟨rfl, es_close (es := pr ++ [d] ++ []) ?_⟩
      have e4 : hdV (pr ++ [d] ++ []) nilP = hdV pr (ptr d.2) := by rw [List.append_nil, hd_app]; rfl
      have e5 : laV nilP (pr ++ [d] ++ []) = ptr d.2 := by rw [List.append_nil, la_snoc]
      have e6 : seg nilP (pr ++ [d] ++ []) nilP = seg nilP pr (ptr d.2) ++ [nodeA d nilP (laV nilP pr)] := by rw [List.append_nil, seg_snoc]
      rw [e4, e5, e6]
      refine h.perm (List.Perm.cons _ (List.Perm.cons _ ?_))
      rw [List.append_assoc]
      exact List.perm_middle.symm
    | cons f po =>
      have hp : Own.St B w0 w (AVals p 76 (lC room (hdV pr (ptr d.2)) (laV (ptr b) (f :: po)) m) :: AOf m ((a, ptr b) :: (pr ++ [d] ++ f :: po).map kv) :: AVals b 80 [aV a, ptr f.2, ptr d.2] :: AVals d.2 80 [aV d.1, ptr b, laV nilP pr] :: AVals f.2 80 [aV f.1, hdV po nilP, ptr b] :: (seg nilP pr (ptr d.2) ++ (seg (ptr f.2) po nilP ++ Ps))) := by
        refine h0.perm ((List.Perm.cons _ (List.Perm.cons _ ?_)))
        rw [List.append_assoc]
        refine List.perm_middle.trans (((List.perm_middle (a := nodeA (a, b) (ptr f.2) (ptr d.2))).cons _).trans ?_)
        refine (((List.perm_middle (a := nodeA f (hdV po nilP) (ptr b))).cons _).cons _).trans ?_
        exact List.Perm.swap _ _ _
      refine (rem_mid (s := (pr ++ [d] ++ f :: po).map kv) _ _ d.2 (aV d.1) (laV nilP pr) f.2 (aV f.1) (hdV po nilP) ha hs hp).mono ?_
      rintro e w' ⟨rfl, h⟩
      refine ⟨rfl, es_close (es := pr ++ [d] ++ f :: po) ?_⟩
      have e4 : hdV (pr ++ [d] ++ f :: po) nilP = hdV pr (ptr d.2) := by rw [List.append_assoc, hd_app]; rfl
      have e5 : laV nilP (pr ++ [d] ++ f :: po) = laV (ptr b) (f :: po) := by rw [la_app]; rfl
      have e6 : seg nilP (pr ++ [d] ++ f :: po) nilP = seg nilP pr (ptr d.2) ++ (nodeA d (ptr f.2) (laV nilP pr) :: nodeA f (hdV po nilP) (ptr d.2) :: seg (ptr f.2) po nilP) := by
        rw [List.append_assoc, seg_app]
        rfl
      rw [e4, e5, e6]
      refine h.perm (List.Perm.cons _ (List.Perm.cons _ ?_))
      rw [List.append_assoc]
      refine List.Perm.symm (List.perm_middle.trans ((List.perm_middle (a := nodeA f (hdV po nilP) (ptr d.2))).cons _))
set_option maxHeartbeats 3200000 in
theorem add_one (ha : a < 4294967296) (hl : s.length ≤ 100000) (hs : ∀ e ∈ s, e.1 ≠ a) (H : Own.St B w0 w (AVals p 76 (lC room nilP nilP m) :: AOf m s :: Ps)) :
    Calls Try.prog 32 #[ptr p, aV a] w fun e w' => e = .returned (.tuple #[]) ∧ ∃ b, Own.St B w0 w' (AVals p 76 (lC room (ptr b) (ptr b) m) :: AOf m ((a, ptr b) :: s) :: AVals b 80 [aV a, nilP, nilP] :: Ps) := by
  have c0 := (H.cellV 0 rfl 1 rfl).1
  have h1 := H.boxV 80 [aV a, nilP, nilP]
  obtain ⟨b, hb⟩ : ∃ b, b = w.heap.size := ⟨_, rfl⟩
  obtain ⟨W1, hW1⟩ : ∃ W, W = w.alloc (.cells [aV a, nilP, nilP].toArray 80) := ⟨_, rfl⟩
  rw [← hW1, ← hb] at h1
  have E1 : w.alloc (.cells #[aV a, nilP, nilP] 80) = W1 := hW1.symm
  have EB := hb.symm
  have c1 := (h1.cellV 0 rfl 1 rfl).1
  obtain ⟨c2, c2z⟩ := h1.cellV 1 rfl 2 rfl
  have h2 := h1.storeV 1 rfl 2 (ptr b)
  simp only [List.set_cons_zero, List.set_cons_succ] at h2
  obtain ⟨W2, hW2⟩ : ∃ W, W = W1.setCell ⟨p, 2, none⟩ (ptr b) := ⟨_, rfl⟩
  rw [← hW2] at h2
  have E2 := hW2.symm
  obtain ⟨c3, c3z⟩ := h2.cellV 1 rfl 1 rfl
  have h3 := h2.storeV 1 rfl 1 (ptr b)
  simp only [List.set_cons_zero, List.set_cons_succ] at h3
  obtain ⟨W3, hW3⟩ : ∃ W, W = W2.setCell ⟨p, 1, none⟩ (ptr b) := ⟨_, rfl⟩
  rw [← hW3] at h3
  have E3 := hW3.symm
  have c4 := (h3.cellV 1 rfl 3 rfl).1
  obtain ⟨wz, ez, kz⟩ := mapPutN h3 2 (a := a) (v := nilP) (pres := false) (s := s) rfl ha hs (by omega) (ptr b)
  simp only [List.set_cons_zero, List.set_cons_succ] at kz
  have KZ := Lib.hid kz
  clear H h1 h2 h3 hb hW1 hW2 hW3 kz hs hl
  go_enter Try.func32, Try.ntmps32
  go_wp2
  go_end0
  refine ⟨rfl, b, ?_⟩
  exact KZ.out.perm (List.perm_middle (l₁ := [_, _])).symm
set_option maxHeartbeats 3200000 in
theorem add_first (v2 : Value) (f : Nat) (x y : Value) (ha : a < 4294967296) (hl : s.length ≤ 100000) (hs : ∀ e ∈ s, e.1 ≠ a) (H : Own.St B w0 w (AVals p 76 (lC room (ptr f) v2 m) :: AOf m s :: AVals f 80 [x, y, nilP] :: Ps)) :
    Calls Try.prog 32 #[ptr p, aV a] w fun e w' => e = .returned (.tuple #[]) ∧ ∃ b, Own.St B w0 w' (AVals p 76 (lC room (ptr b) v2 m) :: AOf m ((a, ptr b) :: s) :: AVals b 80 [aV a, ptr f, nilP] :: AVals f 80 [x, y, ptr b] :: Ps) := by
  have c0 := (H.cellV 0 rfl 1 rfl).1
  have h1 := H.boxV 80 [aV a, ptr f, nilP]
  obtain ⟨b, hb⟩ : ∃ b, b = w.heap.size := ⟨_, rfl⟩
  obtain ⟨W1, hW1⟩ : ∃ W, W = w.alloc (.cells [aV a, ptr f, nilP].toArray 80) := ⟨_, rfl⟩
  rw [← hW1, ← hb] at h1
  have E1 : w.alloc (.cells #[aV a, ptr f, nilP] 80) = W1 := hW1.symm
  have EB := hb.symm
  have c1 := (h1.cellV 0 rfl 1 rfl).1
  obtain ⟨c2, c2z⟩ := h1.cellV 3 rfl 2 rfl
  have h2 := h1.storeV 3 rfl 2 (ptr b)
  simp only [List.set_cons_zero, List.set_cons_succ] at h2
  obtain ⟨W2, hW2⟩ : ∃ W, W = W1.setCell ⟨f, 2, none⟩ (ptr b) := ⟨_, rfl⟩
  rw [← hW2] at h2
  have E2 := hW2.symm
  obtain ⟨c3, c3z⟩ := h2.cellV 1 rfl 1 rfl
  have h3 := h2.storeV 1 rfl 1 (ptr b)
  simp only [List.set_cons_zero, List.set_cons_succ] at h3
  obtain ⟨W3, hW3⟩ : ∃ W, W = W2.setCell ⟨p, 1, none⟩ (ptr b) := ⟨_, rfl⟩
  rw [← hW3] at h3
  have E3 := hW3.symm
  have c4 := (h3.cellV 1 rfl 3 rfl).1
  obtain ⟨wz, ez, kz⟩ := mapPutN h3 2 (a := a) (v := nilP) (pres := false) (s := s) rfl ha hs (by omega) (ptr b)
  simp only [List.set_cons_zero, List.set_cons_succ] at kz
  have KZ := Lib.hid kz
  clear H h1 h2 h3 hb hW1 hW2 hW3 kz hs hl
  go_enter Try.func32, Try.ntmps32
  go_wp2
  go_end0
  refine ⟨rfl, b, ?_⟩
  exact KZ.out.perm (List.perm_middle (l₁ := [_, _])).symm
theorem add_any (H : Own.St B w0 w (AEs p m room es :: Ps)) (hn : a ∉ es.map (·.1)) (ha : a < 4294967296) (hl : es.length ≤ 100000) :
    Calls Try.prog 32 #[ptr p, aV a] w fun e w' => e = .returned (.tuple #[]) ∧ ∃ b, Own.St B w0 w' (AEs p m room ((a, b) :: es) :: Ps) := by
  have hs := kv_not hn
  have h0 := es_open H
  have hl2 : (es.map kv).length ≤ 100000 := by rw [List.length_map]; exact hl
  cases es with
  | nil =>
    refine (add_one (Ps := Ps) (s := []) ha hl2 hs h0).mono ?_
    rintro e w' ⟨rfl, b, h⟩
    exact ⟨rfl, b, es_close (es := [(a, b)]) h⟩
  | cons f es =>
    refine (add_first (Ps := seg (ptr f.2) es nilP ++ Ps) (s := (f :: es).map kv) (laV (ptr f.2) es) f.2 (aV f.1) (hdV es nilP) ha hl2 hs h0).mono ?_
    rintro e w' ⟨rfl, b, h⟩
    exact ⟨rfl, b, es_close (es := (a, b) :: f :: es) h⟩
end
end Gha
end Go.Proofs.Ytameigmoabimiaa

end
section
namespace Go.Proofs.Ytameigmoabimiaa
open Go.RowKit Go.Own Go.Maps
namespace Gha
open Go.GhoM Byt Gho
section
variable {B : Nat} {w0 w : World} {Ps : List Asn} {p m room a b : Nat} {s t : List KV} {es : List Nd} {g : G}
set_option maxHeartbeats 1600000 in
theorem new_any (num : Int) (H : Own.St B w0 w Ps) (hr : -9223372036854775808 ≤ num ∧ num ≤ 9223372036854775807) :
    Calls Try.prog 21 #[.int .i64 num] w fun e w' => if mayBe num = true then ∃ p, e = .returned (.tuple #[ptr p, errG 0]) ∧ Own.St B w0 w' (A p (newG num.toNat) :: Ps) else e = .returned (.tuple #[.pointer none, errG 1]) ∧ Own.St B w0 w' Ps := by
  by_cases h1 : num < 0
  · have hm : mayBe num = false := by unfold mayBe; simp; omega
    have HH := Lib.hid H
    rw [hm]
    clear H hm
    go_enter Try.func21, Try.ntmps21
    go_wp2
    go_ret2
    exact ⟨rfl, HH.out⟩
  · by_cases h2 : 4096 < num
    · have hm : mayBe num = false := by unfold mayBe; simp; omega
      have HH := Lib.hid H
      rw [hm]
      clear H hm
      go_enter Try.func21, Try.ntmps21
      go_wp2
      go_ret2
      exact ⟨rfl, HH.out⟩
    · have hm : mayBe num = true := by unfold mayBe; simp; omega
      obtain ⟨wm, b, em, hM⟩ := mapMakeN H
      have h3 := hM.boxV 76 [.int .i64 num, nilP, nilP, .map (some b)]
      have e1 : num = ((num.toNat : Nat) : Int) := by omega
      have H3 : Hid (Own.St B w0 (wm.alloc (.cells #[.int .i64 num, nilP, nilP, .map (some b)] 76)) (A wm.heap.size (newG num.toNat) :: Ps)) := by
        refine A_close (m := b) (room := num.toNat) (es := []) (g := newG num.toNat) rfl rfl (es_close (es := []) ?_)
        show Own.St B w0 _ (AVals _ _ [.int .i64 ((num.toNat : Nat) : Int), nilP, nilP, .map (some b)] :: _)
        rw [← e1]
        exact h3
      rw [hm]
      clear H hM h3 e1 hm
      go_enter Try.func21, Try.ntmps21
      go_wp2
      go_ret2
      exact ⟨_, rfl, H3.out⟩
set_option maxHeartbeats 1600000 in
theorem drop_es (H : Own.St B w0 w (AEs p m room es :: Ps)) (hn : (es.map (·.1)).Nodup) (ha : a < 4294967296) :
    Calls Try.prog 31 #[ptr p, aV a] w fun e w' => ∃ es', e = .returned (.bool ((es.map (·.1)).contains a)) ∧ es'.map (·.1) = (es.map (·.1)).erase a ∧ Own.St B w0 w' (AEs p m room es' :: Ps) := by
  have h0 := es_open H
  have c0 := (h0.cellV 0 rfl 3 rfl).1
  by_cases hm : a ∈ es.map (·.1)
  · obtain ⟨x, hx, rfl⟩ := List.mem_map.1 hm
    obtain ⟨pre, post, rfl⟩ := List.append_of_mem hx
    obtain ⟨a, b⟩ := x
    have LK := mapLookN h0 1 rfl (a := a) ha (v := ptr b) (List.mem_map.2 ⟨(a, b), by simp, rfl⟩)
    have CR := Lib.hid (remove_any H hn ha)
    have hc : ((pre ++ (a, b) :: post).map (·.1)).contains a = true := by simp
    have he : ((pre ++ post).map (·.1)) = ((pre ++ (a, b) :: post).map (·.1)).erase a := by
      have h2 : a ∉ pre.map (·.1) := fun h => by
        obtain ⟨y, hy, e⟩ := List.mem_map.1 h
        exact kv_ne hn (kv y) (List.mem_map.2 ⟨y, List.mem_append_left _ hy, rfl⟩) e
      rw [List.map_append, List.map_append, List.map_cons, List.erase_append_right _ h2, List.erase_cons_head]
    simp only at hc he ⊢
    rw [hc]
    have HE := Lib.hid he
    clear H h0 hm hx hc he hn
    go_enter Try.func31, Try.ntmps31
    go_wp2_with (refine wpList_val rfl (look_exec rfl LK _ rfl rfl) ?_)
    refine CR.out.mono ?_
    rintro e w' ⟨rfl, h⟩
    have KH := Lib.hid h
    clear h CR
    go_wp2
    go_ret
    exact ⟨_, rfl, HE.out, KH.out⟩
  · have LK := mapLook0N h0 1 rfl (a := a) ha (kv_not hm)
    have hc : (es.map (·.1)).contains a = false := by simpa using hm
    have he : es.map (·.1) = (es.map (·.1)).erase a := (List.erase_of_not_mem hm).symm
    rw [hc]
    have HE := Lib.hid he
    have KH := Lib.hid H
    clear H h0 hm hc he hn
    go_enter Try.func31, Try.ntmps31
    go_wp2_with (refine wpList_val rfl (look_exec rfl LK _ rfl rfl) ?_)
    go_ret
    exact ⟨rfl, _, HE.out, KH.out⟩
theorem drop_any (a : Nat) (H : Own.St B w0 w (A p g :: Ps)) (ok : Ok g) (ha : a < 4294967296) :
    Calls Try.prog 31 #[ptr p, aV a] w fun e w' => e = .returned (.bool (has g a)) ∧ Own.St B w0 w' (A p (GhoM.drop g a) :: Ps) := by
  obtain ⟨m, es, he, h⟩ := A_open H
  refine (drop_es h (by rw [he]; exact ok.once) ha).mono ?_
  rintro e w' ⟨es', rfl, he', h'⟩
  rw [he] at he' ⊢
  exact ⟨rfl, A_close (g := GhoM.drop g a) he' rfl h'⟩
set_option maxHeartbeats 3200000 in
theorem ask_es (H : Own.St B w0 w (AEs p m room es :: Ps)) (hn : (es.map (·.1)).Nodup) (hf : ∀ x ∈ es.map (·.1), x < 4294967296) (hl : es.length ≤ room) (hr : room ≤ 4096) (ha : a < 4294967296) :
    Calls Try.prog 25 #[ptr p, aV a] w fun e w' => ∃ es', e = .returned (.bool ((es.map (·.1)).contains a)) ∧ (es'.map (·.1) = if (es.map (·.1)).contains a = true then (es.map (·.1)).erase a else (a :: es.map (·.1)).take room) ∧ Own.St B w0 w' (AEs p m room es' :: Ps) := by
  have CD := Lib.hid (drop_es H hn ha)
  by_cases hm : a ∈ es.map (·.1)
  · have hc : (es.map (·.1)).contains a = true := by simpa using hm
    rw [hc] at CD ⊢
    rw [if_pos rfl]
    clear H hn hf hm hc hl hr
    go_enter Try.func25, Try.ntmps25
    go_wp2_with (fail)
    refine CD.out.mono ?_
    rintro e w' ⟨es', rfl, he', h'⟩
    have KH := Lib.hid h'
    have HE := Lib.hid he'
    clear CD h' he'
    go_wp2
    go_ret
    exact ⟨_, rfl, HE.out, KH.out⟩
  · have hc : (es.map (·.1)).contains a = false := by simpa using hm
    rw [hc] at CD ⊢
    rw [if_neg (by simp), ]
    have HL := Lib.hid hl
    have HN := Lib.hid hn
    have HM := Lib.hid hm
    have HF := Lib.hid hf
    clear H hn hf hm hc hl
    go_enter Try.func25, Try.ntmps25
    go_wp2_with (fail)
    refine CD.out.mono ?_
    rintro e w1 ⟨es1, rfl, he, h1⟩
    rw [List.erase_of_not_mem HM.out] at he
    have hm1 : a ∉ es1.map (·.1) := by rw [he]; exact HM.out
    have hn1 : (es1.map (·.1)).Nodup := by rw [he]; exact HN.out
    have hl1 : es1.length ≤ room := by
      have := congrArg List.length he
      rw [List.length_map, List.length_map] at this
      rw [this]; exact HL.out
    have c0 := ((es_open h1).cellV 0 rfl 0 rfl).1
    have HE := Lib.hid he
    have HM1 := Lib.hid hm1
    have H1 := Lib.hid h1
    clear CD
    by_cases hz : room = 0
    · subst hz
      have hnil : es.map (·.1) = [] := by rw [← he, List.eq_nil_of_length_eq_zero (l := es1) (by omega)]; rfl
      have HNIL := Lib.hid hnil
      clear h1 he hm1 hn1 hl1 hr hnil
      go_wp2
      go_ret
      exact ⟨es1, rfl, by rw [HE.out, HNIL.out]; rfl, H1.out⟩
    · have hz2 : ¬ (room : Int) = 0 := by omega
      have hz3 : ((room : Int) == 0) = false := by simp; omega
      have CA := Lib.hid (add_any h1 hm1 ha (by omega))
      have HN1 := Lib.hid hn1
      have HL1 := Lib.hid hl1
      clear h1 he hm1 hn1 hl1
      go_wp2_with (fail)
      refine CA.out.mono ?_
      rintro e w2 ⟨rfl, b, h2⟩
      obtain ⟨n, hnn⟩ : ∃ n, n = es1.length + 1 := ⟨_, rfl⟩
      have hnl : n ≤ room + 1 := by rw [hnn]; have := HL1.out; omega
      have K2 := Lib.hid h2
      have HNN := Lib.hid hnn
      have FC : Hid (∀ wx, Below w2.heap.size w2 wx → wx.cell? ⟨p, 3, none⟩ = some (.map (some m)) ∧ wx.cell? ⟨p, 0, none⟩ = some (.int .i64 (room : Int)) ∧ ∀ ty, (Builtin.len_ #[73] ty #[.map (some m)]).run Try.prog wx = .ok (.int .i64 (n : Int)) wx) := by
        intro wx hw
        have h := es_open (K2.out.later hw)
        refine ⟨(h.cellV 0 rfl 3 rfl).1, (h.cellV 0 rfl 0 rfl).1, fun ty => ?_⟩
        have := mapLenN h 1 rfl ty
        rw [List.length_map, List.length_cons, ← HNN.out] at this
        exact this
      clear h2 hnn CA H1
      go_wp2_with (fail)
      obtain ⟨q, hq⟩ : ∃ q, q = decide (room < n) := ⟨_, rfl⟩
      have HQ := Lib.hid hq.symm
      clear hq
      refine wp_lax_list (by kernel_rfl) (by kernel_rfl) (by kernel_rfl) ?_
      refine wpL_move (ptr p) rfl (by kernel_rfl) (by kernel_rfl) (by kernel_rfl) (by kernel_rfl) ?_
      refine wpL_run1 (x := .tmp 20) (ptr p) (ptr p) (by kernel_rfl) (by kernel_rfl) (by kernel_rfl) (by kernel_rfl) (by kernel_rfl) (fun wx ρ hwx h0 hc => nilC rfl ρ wx h0) ?_
      refine wpL_run1 (x := .tmp 21) (ptr p) (.pointer (some ⟨p, 3, none⟩)) (by kernel_rfl) (by kernel_rfl) (by kernel_rfl) (by kernel_rfl) (by kernel_rfl) (fun wx ρ hwx h0 hc => fldL rfl (by decide) ρ wx h0) ?_
      refine wpL_run1 (x := .tmp 22) (.pointer (some ⟨p, 3, none⟩)) (.map (some m)) (by kernel_rfl) (by kernel_rfl) (by kernel_rfl) (by kernel_rfl) (by kernel_rfl) (fun wx ρ hwx h0 hc => by simp [h0, go_sem, (FC.out wx hwx).1]) ?_
      refine wpL_run1 (x := .tmp 23) (.map (some m)) (.int .i64 n) (by kernel_rfl) (by kernel_rfl) (by kernel_rfl) (by kernel_rfl) (by kernel_rfl) (fun wx ρ hwx h0 hc => by simp [h0, go_sem, (FC.out wx hwx).2.2]) ?_
      refine wpL_move (ptr p) rfl (by kernel_rfl) (by kernel_rfl) (by kernel_rfl) (by kernel_rfl) ?_
      refine wpL_run1 (x := .tmp 25) (ptr p) (ptr p) (by kernel_rfl) (by kernel_rfl) (by kernel_rfl) (by kernel_rfl) (by kernel_rfl) (fun wx ρ hwx h0 hc => nilC rfl ρ wx h0) ?_
      refine wpL_run1 (x := .tmp 26) (ptr p) (.pointer (some ⟨p, 0, none⟩)) (by kernel_rfl) (by kernel_rfl) (by kernel_rfl) (by kernel_rfl) (by kernel_rfl) (fun wx ρ hwx h0 hc => fldL rfl (by decide) ρ wx h0) ?_
      refine wpL_run1 (x := .tmp 27) (.pointer (some ⟨p, 0, none⟩)) (.int .i64 room) (by kernel_rfl) (by kernel_rfl) (by kernel_rfl) (by kernel_rfl) (by kernel_rfl) (fun wx ρ hwx h0 hc => by simp [h0, go_sem, (FC.out wx hwx).2.1]) ?_
      refine wpL_run2 (x := .tmp 24) (y := .tmp 28) (.int .i64 n) (.int .i64 room) (.bool q) (by kernel_rfl) (by kernel_rfl) (by kernel_rfl) (by kernel_rfl) (by kernel_rfl) (by kernel_rfl) (fun wx ρ hwx h0 h1 hc => by simp [h0, h1, go_sem, HQ.out]) ?_
      refine wpL_end (by kernel_rfl) (fun w3 hw3 => ?_)
      simp only [FinL, setL, List.set_cons_zero, List.set_cons_succ]
      have K3 := Lib.hid (K2.out.later hw3)
      clear K2 FC hw3
      by_cases hb : n ≤ room
      · have hqf : q = false := by rw [← HQ.out]; exact decide_eq_false (by omega)
        subst hqf
        clear HQ
        go_wp2
        go_ret
        refine ⟨_, rfl, ?_, K3.out⟩
        rw [List.map_cons, HE.out, List.take_of_length_le]
        rw [List.length_cons, ← HE.out, List.length_map, ← HNN.out]
        exact hb
      · have hqf : q = true := by rw [← HQ.out]; exact decide_eq_true (by omega)
        subst hqf
        clear HQ
        obtain ⟨pre, e, hpe⟩ : ∃ pre e, (a, b) :: es1 = pre ++ [e] := by
          rcases List.eq_nil_or_concat ((a, b) :: es1) with h | ⟨pr, d, h⟩
          · cases h
          · exact ⟨pr, d, by rw [h, List.concat_eq_append]⟩
        have h3 := K3.out
        rw [hpe] at h3
        have c5 : w3.cell? ⟨p, 2, none⟩ = some (ptr e.2) := by
          have := ((es_open h3).cellV 0 rfl 2 rfl).1
          rwa [la_snoc] at this
        have hnd : ((pre ++ (e.1, e.2) :: []).map (·.1)).Nodup := by
          show ((pre ++ [e]).map (·.1)).Nodup
          rw [← hpe, List.map_cons]
          exact List.nodup_cons.2 ⟨HM1.out, HN1.out⟩
        have hef : e.1 < 4294967296 := by
          have : e ∈ (a, b) :: es1 := by rw [hpe]; simp
          rcases List.mem_cons.1 this with h | h
          · rw [h]; exact ha
          · exact HF.out _ (by rw [← HE.out]; exact List.mem_map.2 ⟨e, h, rfl⟩)
        have CR := Lib.hid (remove_any (a := e.1) (b := e.2) (pre := pre) (post := []) h3 hnd hef)
        have HPE := Lib.hid hpe
        clear h3 hnd hef K3 hpe
        go_wp2_with (fail)
        refine CR.out.mono ?_
        rintro e4 w4 ⟨rfl, h4⟩
        have K4 := Lib.hid h4
        clear h4 CR
        go_wp2
        go_ret
        refine ⟨_, rfl, ?_, K4.out⟩
        have h5 := congrArg (List.map (·.1)) HPE.out
        rw [List.map_cons, HE.out, List.map_append] at h5
        have h6 := congrArg List.length HPE.out
        rw [List.length_cons, List.length_append, List.length_singleton, ← HNN.out] at h6
        have h7 : (pre.map (·.1)).length = room := by rw [List.length_map]; omega
        show _ = List.take room (a :: es.map (·.1))
        rw [h5, List.append_nil, ← h7, List.take_left]
theorem ask_any (a : Nat) (H : Own.St B w0 w (A p g :: Ps)) (ok : Ok g) (hr : g.room ≤ 4096) (ha : a < 4294967296) :
    Calls Try.prog 25 #[ptr p, aV a] w fun e w' => e = .returned (.bool (has g a)) ∧ Own.St B w0 w' (A p (GhoM.ask g a) :: Ps) := by
  obtain ⟨m, es, he, h⟩ := A_open H
  have hl : es.length ≤ g.room := by
    have := congrArg List.length he
    rw [List.length_map] at this
    rw [this]; exact ok.len
  refine (ask_es h (by rw [he]; exact ok.once) (by rw [he]; exact ok.fits) hl hr ha).mono ?_
  rintro e w' ⟨es', rfl, he', h'⟩
  rw [he] at he' ⊢
  refine ⟨rfl, A_close (g := GhoM.ask g a) ?_ ?_ h'⟩
  · rw [he']
    unfold GhoM.ask GhoM.has
    split <;> rfl
  · exact (ask_room g a).symm
end
end Gha
end Go.Proofs.Ytameigmoabimiaa

end
section
namespace Go.Proofs.Ytameigmoabimiaa
open Go.RowKit Go.Own Go.Maps
namespace Gha
open Go.GhoM Byt Gho
theorem info_u : (Try.prog.info? 31).map (fun i => (i.zero, i.size, i.bytes)) = some (some (.int .u32 0), 1, 4) := by kernel_rfl
theorem seg_at (od : Value) : ∀ (nw : Value) (es : List Nd) (i : Nat) (e : Nd), es[i]? = some e → ∃ nw', (seg nw es od)[i]? = some (nodeA e (hdV (es.drop (i + 1)) od) nw')
  | _, [], i, e, h => by simp at h
  | nw, f :: es, 0, e, h => by
    simp only [List.getElem?_cons_zero, Option.some.injEq] at h
    subst h
    exact ⟨nw, rfl⟩
  | nw, f :: es, i + 1, e, h => by
    rw [List.getElem?_cons_succ] at h
    exact seg_at od (ptr f.2) es i e h
section
variable {B : Nat} {w0 w : World} {Ps : List Asn} {p m room a b : Nat} {s t : List KV} {es : List Nd} {g : G}
theorem node_cells (H : Own.St B w0 w (AEs p m room es :: Ps)) {i : Nat} {e : Nd} (he : es[i]? = some e) : w.cell? ⟨e.2, 0, none⟩ = some (aV e.1) ∧ w.cell? ⟨e.2, 1, none⟩ = some (hdV (es.drop (i + 1)) nilP) := by
  have h := es_open H
  obtain ⟨nw, hs⟩ := seg_at nilP nilP es i e he
  have hi : i < (seg nilP es nilP).length := (List.getElem?_eq_some_iff.1 hs).1
  have h2 : (AVals p 76 (lC room (hdV es nilP) (laV nilP es) m) :: AOf m (es.map kv) :: (seg nilP es nilP ++ Ps))[i + 1 + 1]? = some (nodeA e (hdV (es.drop (i + 1)) nilP) nw) := by
    rw [List.getElem?_cons_succ, List.getElem?_cons_succ, List.getElem?_append_left hi, hs]
  exact ⟨(h.cellV _ h2 0 rfl).1, (h.cellV _ h2 1 rfl).1⟩
theorem makeCap (H : Own.St B w0 w Ps) (n : Nat) (hn : n ≤ 100000) :
    ∃ w' g, (Instr.makeSlice 43 (.int .i64 0) (.int .i64 (n : Int))).run Try.prog w = .ok (.slice (some ⟨g, 0, none⟩) 0 n) w' ∧ Own.St B w0 w' (RowU (.slice (some ⟨g, 0, none⟩) 0 n) [] 0 :: Ps) := by
  obtain ⟨i, hi, hz⟩ := Option.map_eq_some_iff.1 info_u
  simp only [Prod.mk.injEq] at hz
  obtain ⟨hz0, hz1, hz2⟩ := hz
  have hr := run_make (P := Try.prog) w 43 31 i (.int .u32 0) Try.underlying43 hi hz0 .i64 .i64 0 (n : Int) (Int.le_refl _) (by omega) (by rw [hz2]; omega) (by omega)
  refine ⟨w.alloc (.cells (madeCells (Value.int .u32 0).cells (n * 1)) 31), w.heap.size, by rw [hr, hz1]; simp, ?_⟩
  have hsz : (madeCells (Value.int .u32 0).cells (n * 1)).size = n * 1 := by unfold madeCells; simp
  have h1 := H.new (S' := fun k => k = w.heap.size) (ARow 31 1 (.slice (some ⟨w.heap.size, 0, none⟩) n n) n _) (Row.made w (madeCells (Value.int .u32 0).cells (n * 1)) 31 1 n (by unfold maxLen; omega) hsz) (((Step.refl (fun _ => False) w).alloc _).to (fun k hk => .inr (Nat.le_of_eq hk.symm)))
  have h2 := h1.rowCut 0 rfl 0 (Nat.zero_le _)
  simp only [List.set_cons_zero, Nat.zero_mul, List.take_zero] at h2
  exact h2
end
theorem nil_drop (a : Nat) (w : World) : Calls Try.prog 31 #[.pointer none, aV a] w fun e w' => e = .returned (.bool false) ∧ Below w.heap.size w w' := by
  go_enter Try.func31, Try.ntmps31
  go_wp2
  go_ret
  exact ⟨rfl, Below.refl _ _⟩
theorem nil_ask (a : Nat) (w : World) : Calls Try.prog 25 #[.pointer none, aV a] w fun e w' => e = .returned (.bool false) ∧ Below w.heap.size w w' := by
  have CD := Lib.hid (nil_drop a w)
  go_enter Try.func25, Try.ntmps25
  go_wp2_with (fail)
  refine CD.out.mono ?_
  rintro e w1 ⟨rfl, h1⟩
  have H1 := Lib.hid h1
  clear h1
  go_wp2
  go_ret
  exact ⟨rfl, H1.out⟩
end Gha
namespace Gho
open Go.GhoM Byt
def kept (W : World) : Kept W where
  A := Gha.A
  new num _ H hr := Gha.new_any num H hr
  ask a _ H ok hr ha := Gha.ask_any a H ok hr ha
  drop a _ H ok _ ha := Gha.drop_any a H ok ha
  nilAsk a _ _ := Gha.nil_ask a _
  nilDrop a _ _ := Gha.nil_drop a _
end Gho
end Go.Proofs.Ytameigmoabimiaa

end
section
namespace Go.Proofs.Ytameigmoabimiaa
open Go.RowKit Go.Own Go.Maps
namespace Hta
open Go.GhoM Go.HotM Byt Gho Hot
open Gha (nilP u32Keyed kl kl_inj key_of KV Reads AOf reads_nil aof_permH)
theorem mapT : Try.prog.underlying 53 = some (.map 31 54) := Try.underlying53
theorem zeroN (w : World) : (zeroValue 54).run Try.prog w = .ok nilP w := by kernel_rfl
section
variable {B : Nat} {w0 w : World} {Ps : List Asn} {b : Nat} {s t : List KV}
theorem mapMakeN (H : Own.St B w0 w Ps) : ∃ w' b, (Instr.makeMap 53 none).run Try.prog w = .ok (.map (some b)) w' ∧ Own.St B w0 w' (AOf b [] :: Ps) :=
  ⟨_, w.heap.size, run_makeMap 53 w, H.new (S' := fun k => k = w.heap.size) (AOf _ []) ⟨⟨.map [], World.ownsMap_made w _ _ _, reads_nil⟩, fun k => Iff.rfl⟩ (((Step.refl (fun _ => False) w).alloc (.map #[] 0)).to (fun k hk => .inr (Nat.le_of_eq hk.symm)))⟩
/-- a look-up: what stands there -/
theorem mapLookN (H : Own.St B w0 w Ps) (i : Nat) (hi : Ps[i]? = some (AOf b s)) {a : Nat} (ha : a < 4294967296) {v : Value} (hv : (a, v) ∈ s) :
    (Instr.lookup 53 (.map (some b)) (.int .u32 (a : Int)) false).run Try.prog w = .ok v w := by
  obtain ⟨S, ⟨⟨D, hm, hr⟩, _⟩, _⟩ := H.at i hi
  obtain ⟨v', ps, hrun, hv'⟩ := hm.lookup u32Keyed mapT (zeroN w) (zd := .held nilP) (zp := []) rfl (key_of ha)
  rw [hr.at_ _ hv] at hv'
  simp only [rawV, Option.some.injEq, Prod.mk.injEq, DataW.held.injEq] at hv'
  rw [hrun, hv'.1]
/-- .. nothing -/
theorem mapLook0N (H : Own.St B w0 w Ps) (i : Nat) (hi : Ps[i]? = some (AOf b s)) {a : Nat} (ha : a < 4294967296) (hn : ∀ e ∈ s, e.1 ≠ a) :
    (Instr.lookup 53 (.map (some b)) (.int .u32 (a : Int)) false).run Try.prog w = .ok nilP w := by
  obtain ⟨S, ⟨⟨D, hm, hr⟩, _⟩, _⟩ := H.at i hi
  obtain ⟨v', ps, hrun, hv'⟩ := hm.lookup u32Keyed mapT (zeroN w) (zd := .held nilP) (zp := []) rfl (key_of ha)
  have hh : Maps.has D (kl a) = false := by
    cases h : Maps.has D (kl a)
    · rfl
    · obtain ⟨e, he, hk⟩ := (hr.has _).1 h
      exact absurd (kl_inj hk) (hn e he)
  rw [atKey_of_not_has hh] at hv'
  simp only [rawV, Option.some.injEq, Prod.mk.injEq, DataW.held.injEq] at hv'
  rw [hrun, hv'.1]
/-- a value is put: at an address that is not there, or in the first one's place -/
theorem mapPutN (H : Own.St B w0 w Ps) (i : Nat) {a : Nat} {v : Value} {pres : Bool} (hi : Ps[i]? = some (AOf b (if pres then (a, v) :: s else s))) (ha : a < 4294967296) (hn : ∀ e ∈ s, e.1 ≠ a) (hl : s.length ≤ 1000000) (v' : Value) :
    ∃ w', (Instr.mapUpdate 53 (.map (some b)) (.int .u32 (a : Int)) v').run Try.prog w = .ok () w' ∧ Own.St B w0 w' (Ps.set i (AOf b ((a, v') :: s))) := by
  obtain ⟨S, ⟨⟨D, hm, hr⟩, h5⟩, _, put⟩ := H.at i hi
  obtain ⟨w2, hrun2, hm2, g2⟩ := hm.update u32Keyed mapT (by unfold maxLen; split <;> simp <;> omega) (key_of ha) (val := v') (d := .held v') (ps := []) rfl
  have ht := hm.tidy u32Keyed
  have hD := ht.isMap
  have hkey : WideAt.IsKeyLit (kl a) := u32Keyed.key (key_of ha)
  have hmem : ∀ e : KV, e.1 ≠ a → (e ∈ (if pres then (a, v) :: s else s) ↔ e ∈ s) := by
    intro e he
    cases pres
    · exact Iff.rfl
    · simp only [if_true, List.mem_cons]
      exact ⟨fun h => h.elim (fun h => absurd (by rw [h]) he) id, .inr⟩
  have hr2 : Reads (D.put (kl a) (.held v')) ((a, v') :: s) := by
    refine ⟨fun k => ?_, fun e he zd => ?_, ?_⟩
    · by_cases hk : k = kl a
      · rw [hk, has_put_same hD hkey]
        exact ⟨fun _ => ⟨(a, v'), List.mem_cons_self .., rfl⟩, fun _ => rfl⟩
      · rw [has_put_other hk, hr.has]
        constructor
        · rintro ⟨e, he, e2⟩
          exact ⟨e, List.mem_cons_of_mem _ ((hmem e (fun h => hk (by rw [← e2, h]))).1 he), e2⟩
        · rintro ⟨e, he, e2⟩
          rcases List.mem_cons.1 he with h | h
          · rw [h] at e2; exact absurd e2.symm hk
          · exact ⟨e, (hmem e (hn e h)).2 h, e2⟩
    · rcases List.mem_cons.1 he with h | h
      · rw [h]; exact atKey_put_same hD hkey _ _
      · have hne : kl e.1 ≠ kl a := fun h2 => hn e h (kl_inj h2)
        rw [atKey_put_other hne]
        exact hr.at_ e ((hmem e (hn e h)).2 h) zd
    · rw [size_put ht, hr.size]
      cases pres
      · have hh : Maps.has D (kl a) = false := by
          cases h : Maps.has D (kl a)
          · rfl
          · obtain ⟨e, he, hk⟩ := (hr.has _).1 h
            exact absurd (kl_inj hk) (hn e (by simpa using he))
        rw [hh]
        simp
      · have hh : Maps.has D (kl a) = true := (hr.has _).2 ⟨(a, v), by simp, rfl⟩
        rw [hh]
        simp
  refine ⟨w2, hrun2, put (fun k => k = b) w2 (AOf b ((a, v') :: s)) ⟨⟨_, Gha.tight hm2 hr2, hr2⟩, fun k => Iff.rfl⟩ ?_⟩
  exact ⟨g2.os, g2.tape, g2.output, g2.size, fun k hk hn => g2.block k hk (fun e => hn ((h5 k).2 (by cases e; rfl))), fun k hk => .inl ((h5 k).2 hk)⟩
/-- the first one is deleted -/
theorem mapDelN (H : Own.St B w0 w Ps) (i : Nat) {a : Nat} {v : Value} (hi : Ps[i]? = some (AOf b ((a, v) :: s))) (ha : a < 4294967296) (hn : ∀ e ∈ s, e.1 ≠ a) (ty : TypeId) :
    ∃ w', (Builtin.delete_ #[53, 31] ty #[.map (some b), .int .u32 (a : Int)]).run Try.prog w = .ok (.tuple #[]) w' ∧ Own.St B w0 w' (Ps.set i (AOf b s)) := by
  obtain ⟨S, ⟨⟨D, hm, hr⟩, h5⟩, _, put⟩ := H.at i hi
  obtain ⟨w2, hrun2, hm2, turn⟩ := hm.drop u32Keyed mapT (key_of ha) ty
  have g2 := turn.grown
  have ht := hm.tidy u32Keyed
  have hr2 : Reads (D.del (kl a)) s := by
    refine ⟨fun k => ?_, fun e he zd => ?_, ?_⟩
    · by_cases hk : k = kl a
      · rw [hk, has_del_same]
        refine ⟨fun h => (by cases h), ?_⟩
        rintro ⟨e, he, e2⟩
        exact absurd (kl_inj e2) (hn e he)
      · rw [has_del_other hk, hr.has]
        constructor
        · rintro ⟨e, he, e2⟩
          rcases List.mem_cons.1 he with h | h
          · rw [h] at e2; exact absurd e2.symm hk
          · exact ⟨e, h, e2⟩
        · rintro ⟨e, he, e2⟩
          exact ⟨e, List.mem_cons_of_mem _ he, e2⟩
    · have hne : kl e.1 ≠ kl a := fun h2 => hn e he (kl_inj h2)
      rw [atKey_del_other hne]
      exact hr.at_ e (List.mem_cons_of_mem _ he) zd
    · have h := size_del (k := kl a) ht
      have hh : Maps.has D (kl a) = true := (hr.has _).2 ⟨(a, v), by simp, rfl⟩
      rw [hh, hr.size] at h
      simp at h
      omega
  refine ⟨w2, hrun2, put (fun k => k = b) w2 (AOf b s) ⟨⟨_, Gha.tight hm2 hr2, hr2⟩, fun k => Iff.rfl⟩ ?_⟩
  exact ⟨g2.os, g2.tape, g2.output, g2.size, fun k hk hn => g2.block k hk (fun e => hn ((h5 k).2 (by cases e; rfl))), fun k hk => .inl ((h5 k).2 hk)⟩
end
theorem mapLenN {B : Nat} {w0 w : World} {Ps : List Asn} {b : Nat} {s : List KV} (H : Own.St B w0 w Ps) (i : Nat) (hi : Ps[i]? = some (AOf b s)) (ty : TypeId) :
    (Builtin.len_ #[53] ty #[.map (some b)]).run Try.prog w = .ok (.int .i64 (s.length : Int)) w := by
  obtain ⟨S, ⟨⟨D, hm, hr⟩, _⟩, _⟩ := H.at i hi
  rw [hm.len mapT ty, hr.size]
/-! ### the chain -/
/-- a node: its address, its block, the slice of its bytes, these -/
structure Nd where
  a : Nat
  b : Nat
  ao : Option Addr
  n : Nat
  c : Nat
  l : List UInt8
def kv (e : Nd) : KV := (e.a, ptr e.b)
abbrev sv (e : Nd) : Value := .slice e.ao e.n e.c
def item (e : Nd) : It := ⟨e.a, e.l⟩
/-- the first node; od: what stands behind them -/
def hdV : List Nd → Value → Value
  | [], od => od
  | e :: _, _ => ptr e.b
/-- the last node; nw: what stands ahead of them -/
def laV : Value → List Nd → Value
  | nw, [] => nw
  | _, e :: es => laV (ptr e.b) es
def nodeA (e : Nd) (od nw : Value) : Asn := AVals e.b 66 [aV e.a, sv e, od, nw]
/-- its bytes -/
def blkA (e : Nd) : Asn := AB e.ao e.n e.c e.l
def seg : Value → List Nd → Value → List Asn
  | _, [], _ => []
  | nw, e :: es, od => nodeA e (hdV es od) nw :: seg (ptr e.b) es od
theorem hd_app (od : Value) : ∀ es fs, hdV (es ++ fs) od = hdV es (hdV fs od)
  | [], _ => rfl
  | _ :: _, _ => rfl
theorem la_app : ∀ (nw : Value) (es fs : List Nd), laV nw (es ++ fs) = laV (laV nw es) fs
  | _, [], _ => rfl
  | _, e :: es, fs => la_app (ptr e.b) es fs
theorem seg_app (od : Value) : ∀ (nw : Value) (es fs : List Nd), seg nw (es ++ fs) od = seg nw es (hdV fs od) ++ seg (laV nw es) fs od
  | _, [], _ => rfl
  | nw, e :: es, fs => by
    show nodeA e (hdV (es ++ fs) od) nw :: seg (ptr e.b) (es ++ fs) od = nodeA e (hdV es (hdV fs od)) nw :: (seg (ptr e.b) es (hdV fs od) ++ seg (laV (ptr e.b) es) fs od)
    rw [hd_app, seg_app od (ptr e.b) es fs]
theorem seg_snoc (nw : Value) (es : List Nd) (e : Nd) (od : Value) : seg nw (es ++ [e]) od = seg nw es (ptr e.b) ++ [nodeA e od (laV nw es)] := seg_app od nw es [e]
theorem la_snoc (nw : Value) (es : List Nd) (e : Nd) : laV nw (es ++ [e]) = ptr e.b := la_app nw es [e]
abbrev lC (room pk : Nat) (v1 v2 : Value) (m : Nat) : List Value := [.int .i64 (room : Int), ptr pk, v1, v2, .map (some m)]
/-- what stands behind the cache's own cells and its map: the list, the nodes, their bytes -/
def restL (pk : Nat) (g : G) (es : List Nd) : List Asn := seg nilP es nilP ++ Gha.A pk g :: es.map blkA
def partsL (p m room pk : Nat) (g : G) (es : List Nd) : List Asn := AVals p 56 (lC room pk (hdV es nilP) (laV nilP es) m) :: AOf m (es.map kv) :: restL pk g es
def AEs (p m room pk : Nat) (g : G) (es : List Nd) : Asn := AJoin (partsL p m room pk g es)
/-- the landed cache at p -/
def A (p : Nat) (h : H) : Asn := AEx (α := { x : (Nat × Nat) × List Nd // x.2.map item = h.L }) fun x => AEs p x.1.1.1 h.room x.1.1.2 h.g x.1.2
section
variable {B : Nat} {w0 w : World} {Ps : List Asn} {p m room pk : Nat} {g : G} {h : H} {es : List Nd}
theorem A_open (X : Own.St B w0 w (A p h :: Ps)) : ∃ m pk es, es.map item = h.L ∧ Own.St B w0 w (AEs p m h.room pk h.g es :: Ps) := by
  obtain ⟨x, X⟩ := X.openE
  exact ⟨x.1.1.1, x.1.1.2, x.1.2, x.2, X⟩
theorem A_close (he : es.map item = h.L) (hr : room = h.room) (hg : g = h.g) (X : Own.St B w0 w (AEs p m room pk g es :: Ps)) : Own.St B w0 w (A p h :: Ps) := by
  subst hr
  subst hg
  exact Own.St.closeE (α := { x : (Nat × Nat) × List Nd // x.2.map item = h.L }) (P := fun x => AEs p x.1.1.1 h.room x.1.1.2 h.g x.1.2) ⟨((m, pk), es), he⟩ X
theorem es_open (X : Own.St B w0 w (AEs p m room pk g es :: Ps)) : Own.St B w0 w (AVals p 56 (lC room pk (hdV es nilP) (laV nilP es) m) :: AOf m (es.map kv) :: (seg nilP es nilP ++ (Gha.A pk g :: (es.map blkA ++ Ps)))) := by
  have := X.openJ
  unfold partsL restL at this
  simpa only [List.cons_append, List.append_assoc] using this
theorem es_close (X : Own.St B w0 w (AVals p 56 (lC room pk (hdV es nilP) (laV nilP es) m) :: AOf m (es.map kv) :: (seg nilP es nilP ++ (Gha.A pk g :: (es.map blkA ++ Ps))))) : Own.St B w0 w (AEs p m room pk g es :: Ps) := by
  refine Own.St.closeJ (Qs := partsL p m room pk g es) ?_
  unfold partsL restL
  simpa only [List.cons_append, List.append_assoc] using X
end
end Hta
end Go.Proofs.Ytameigmoabimiaa

end
