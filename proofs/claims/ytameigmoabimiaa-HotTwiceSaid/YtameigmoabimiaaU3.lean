/- Merged: LawHotC LaxG LaxH Slo HotR HotS HotT -/
import Derived.Maps.OwnSet
import Derived.Great.Walk
import Derived.Test.YtameigmoabimiaaU1
import Derived.Test.YtameigmoabimiaaU2
set_option linter.unusedVariables false
section
namespace Go.Proofs.Ytameigmoabimiaa
open Go.RowKit Go.Own Go.Maps
namespace Hot
open Go.GhoM Go.HotM Byt Gho
theorem u32KeyedH : Maps.Keyed Try.prog 31 := Maps.int_keyed Try.underlying31
theorem u32_keyH {a : Nat} (h : a < 4294967296) : keyOf Try.prog 31 (.int .u32 (a : Int)) = some (.int .u32 (a : Int)) :=
  Maps.keyOf_int_mk Try.underlying31 (by simp [Lit.wf, IntKind.min, IntKind.max, IntKind.signed, IntKind.bits]; omega)
theorem mapLenLe {P : Program} {kt mt vt : TypeId} {z : Value} {B : Nat} {w0 w : World} {Ps : List Asn} {b n : Nat} {g : Lit → Value} (H : Own.St B w0 w Ps) (i : Nat) (hi : Ps[i]? = some (AMap P kt z b n g)) (hmt : P.underlying mt = some (.map kt vt)) :
    ∃ s, s ≤ n ∧ ∀ ty, (Builtin.len_ #[mt] ty #[.map (some b)]).run P w = .ok (.int .i64 (s : Int)) w := by
  obtain ⟨S, ⟨⟨D, hm, h1⟩, _⟩, _⟩ := H.at i hi
  refine ⟨Maps.size D, ?_, fun ty => by rw [hm.len hmt ty]⟩
  obtain ⟨es, clock, hb, F, hs, rfl⟩ := hm
  simpa [Maps.size, length_sorted] using hs
theorem sp_put {hl : Lit → Value} {fn : Nat → List UInt8} {x : Nat} {bs : List UInt8} (SP : ∀ a : Nat, a < 4294967296 → hl (.int .u32 (a : Int)) = strV (fn a)) : ∀ a : Nat, a < 4294967296 → putK hl (.int .u32 (x : Int)) (strV bs) (.int .u32 (a : Int)) = strV ((fun c => if c = x then bs else fn c) a) := by
  intro a ha
  by_cases hax : a = x
  · subst hax
    rw [putK_same]
    show _ = strV (if a = a then bs else fn a)
    rw [if_pos rfl]
  · rw [putK_other (by intro e; cases e; exact hax rfl), SP a ha]
    show _ = strV (if a = x then bs else fn a)
    rw [if_neg hax]
set_option maxRecDepth 6000 in
set_option maxHeartbeats 12800000 in
theorem walk_last (r0 : Nat) (hr0 : r0 < 256) (q0 : Nat) (hq0 : q0 < 256) (a1 : Option Addr) (len1 cap1 : Nat) (l : List ActD) {w : World} (w1 : inSlice 3 inAct l w.heap.size w [.slice a1 len1 cap1]) (K : Kept w) :
    Calls Try.prog 4 #[.int .u8 (r0 : Int), .int .u8 (q0 : Int), .slice a1 len1 cap1] w (RetYes w) := by
  obtain ⟨hlen, hcap, hmax, hnil, hat⟩ := acts_in w1
  have SH := Lib.hid (shown_any K (Below.refl _ _))
  have HF := Lib.hid (fun wx hwx => few_any w1 wx hwx)
  have HAT := Lib.hid hat
  have HLEN := Lib.hid hlen
  have hcap63 : cap1 ≤ 9223372036854775807 := by unfold maxLen at hmax; omega
  skip
  obtain ⟨n, hr⟩ : ∃ r, r = r0 % 21 := ⟨_, rfl⟩
  obtain ⟨q, hq⟩ : ∃ r, r = q0 % 101 := ⟨_, rfl⟩
  have hn21 : n ≤ 20 := by omega
  have hq101 : q ≤ 100 := by omega
  have HRR := Lib.hid hr
  have HQQ := Lib.hid hq
  have N1 := fun (wx : World) (hwx : Below w.heap.size w wx) => K.new (w := wx) (B := w.heap.size) (w0 := w) (Ps := []) (n : Int) (q : Int) hwx ((Own.St.start w).later hwx) (by omega) (by omega)
  have hmb : mayBe (n : Int) = true := by unfold mayBe; simp; omega
  have hmb2 : mayBe (q : Int) = true := by unfold mayBe; simp; omega
  simp only [hmb, hmb2, and_self, if_true, Int.toNat_natCast] at N1
  replace N1 := Lib.hid N1
  clear hr hq hmb hmb2
  clear hat hlen w1 hmax hnil
  go_enter Try.func4, Try.ntmps4
  go_wp2_with (fail)
  refine SH.out.mono ?_
  rintro e wa ⟨rfl, h1⟩
  have U1 := Lib.hid h1
  clear h1 SH
  go_wp2_with (first
    | (refine wpList_val rfl (rem_u8 21 (by decide) rfl (by decide) HRR.out _ _ rfl rfl) ?_)
    | (refine wpList_val rfl (rem_u8 101 (by decide) rfl (by decide) HQQ.out _ _ rfl rfl) ?_))
  refine (N1.out _ U1.out).mono ?_
  clear N1
  rintro e wa2 ⟨p, rfl, h3⟩
  obtain ⟨wb, bl, hml, hs3⟩ := h3.mapMake (P := Try.prog) (kt := 31) (mt := 46) (z := strV [])
  have H3 := Lib.hid hs3.swap2
  clear h3 hs3 U1
  go_wp2_with (fail)
  clear hml
  refine (HF.out wb H3.out.below).mono ?_
  rintro e wc ⟨k, rfl, rfl, hk1, hk2, hsm⟩
  have HSM := Lib.hid hsm
  clear hsm
  go_wp2
  go_loopw [43] (fun v36 wr => ∃ (i : Nat) (h : H) (nl : Nat) (hl : Lit → Value) (f : Nat → List UInt8), i ≤ k ∧ v36 = .int .i64 (i : Int) ∧ Own.St w.heap.size w wr [K.A p h, AMap Try.prog 31 (strV []) bl nl hl] ∧ HotM.Ok h ∧ h.room = n ∧ nl ≤ i ∧ (∀ a : Nat, a < 4294967296 → hl (.int .u32 (a : Int)) = strV (f a)) ∧ Lst h f) (fun v36 _ => k - (intOf v36).toNat)
  case atStart => exact ⟨0, newH n q, 0, _, fun _ => [], Nat.zero_le _, rfl, H3.out, HotM.ok_new (by omega) (by omega), rfl, Nat.le_refl _, fun _ _ => rfl, fun x hx => by cases hx⟩
  case round =>
    obtain ⟨i, h, nl, hl, fn, hik, rfl, hst, hok, hroom, hnl, hsp, hls⟩ := hrel
    have HS := Lib.hid hst
    have OK := Lib.hid hok
    have RM := Lib.hid hroom
    have SP := Lib.hid hsp
    have LS := Lib.hid hls
    clear hst hok hroom hsp hls H3
    by_cases hi : (i : Int) < (k : Int)
    · have hik2 : i < k := by omega
      have hil : i < l.length := by rw [← HLEN.out]; omega
      obtain ⟨b, o, hbo, hra⟩ := HAT.out (by intro e; rw [e] at hil; exact absurd hil (Nat.not_lt_zero _))
      subst hbo
      obtain ⟨ad, cd, hact⟩ := hra i hil
      have hb2 := HSM.out i hil hik2
      obtain ⟨kd, hkd⟩ : ∃ x, x = l[i].kind := ⟨_, rfl⟩
      obtain ⟨x, hx⟩ : ∃ x, x = l[i].addr := ⟨_, rfl⟩
      obtain ⟨bs, hbs⟩ : ∃ x, x = l[i].b := ⟨_, rfl⟩
      obtain ⟨m, hm⟩ : ∃ x, x = l[i].b.length := ⟨_, rfl⟩
      obtain ⟨cs, hcs⟩ : ∃ x, x = actC l[i] (.slice ad l[i].b.length cd) := ⟨_, rfl⟩
      have RA : Hid (wr.rangeAt b (o + i * 3) cs) := by rw [hcs]; exact (hact wr HS.out.below).range
      have CSL : Hid (cs.length = 3) := by show _ = _; rw [hcs]; rfl
      have CS1 : Hid (∀ u ∈ cs, u.oneCell' = true) := by rw [hcs]; exact actC_one _ _ _ _
      have K0 : Hid (cs[0]? = some (.int .u8 (kd : Int))) := by show _ = _; rw [hcs, hkd]; rfl
      have K1 : Hid (cs[1]? = some (aV x)) := by show _ = _; rw [hcs, hx]; rfl
      have K2 : Hid (cs[2]? = some (.slice ad m cd)) := by show _ = _; rw [hcs, hm]; rfl
      have HX : Hid (x < 4294967296) := by rw [hx]; exact (hact wr HS.out.below).addr
      have BL : Hid (bs.length ≤ 20000) := by rw [hbs]; exact hb2
      have ML : Hid (m ≤ 20000) := by rw [hm]; exact hb2
      have GV : Hid (∀ wx, Below w.heap.size w wx → Given wx ad m cd bs) := by rw [hm, hbs]; exact fun wx hwx => (hact wx hwx).given
      obtain ⟨f, hf⟩ : ∃ f, f = kd % 3 := ⟨_, rfl⟩
      have hf3 : f = 0 ∨ f = 1 ∨ f = 2 := by omega
      have HF3 := Lib.hid hf
      clear hra hact hb2 hkd hx hbs hm hcs hf
      rcases hf3 with rfl | rfl | rfl
      · skip
        go_wp2_with (first
            | (refine wpList_val rfl (idx_act rfl (show i < k from hik2) _ _ rfl rfl) ?_)
            | (refine wpList_val rfl (load_act cs CSL.out rfl _ (b := b) (k := o + i * 3) RA.out rfl) ?_)
            | (refine wpList_box2 boxy_act rfl rfl rfl (.tmp 13) (.tmp 46) rfl rfl cs (fun _ => rfl) (fun _ => rfl) CSL.out CS1.out HS.out ?_; intro b14 w6 h6; have HX6 := Lib.hid h6; have d0 := (h6.cellV 0 rfl 0 K0.out).1; have d1 := (h6.cellV 0 rfl 1 K1.out).1; have d2 := (h6.cellV 0 rfl 2 K2.out).1; clear h6)
            | (refine wpList_val rfl (rem_u8 3 (by decide) rfl (by decide) HF3.out _ _ rfl rfl) ?_))
        refine (K.offer x ad m cd bs HX6.out.below HX6.out.swap2 OK.out HX.out (GV.out _ HX6.out.below) ML.out).mono ?_
        obtain ⟨kept, hkept⟩ : ∃ y, y = offB h x := ⟨_, rfl⟩
        rw [← hkept]
        have HKP := Lib.hid hkept.symm
        clear hkept
        rintro e w7 ⟨rfl, h7⟩
        have H7 := Lib.hid h7
        clear h7 HS HX6 d2
        have OKO : Hid (HotM.Ok (HotM.offer h x bs)) := HotM.ok_offer OK.out HX.out BL.out
        go_wp2_with (fail)
        refine (K.all H7.out.below H7.out OKO.out).mono ?_
        obtain ⟨ma, hma⟩ : ∃ y, y = (keys (HotM.offer h x bs)).length := ⟨_, rfl⟩
        have hma20 : ma ≤ 4096 := by
          have h1 := OKO.out.len
          have h2 := OKO.out.room
          have h3 : (keys (HotM.offer h x bs)).length = (HotM.offer h x bs).L.length := List.length_map ..
          omega
        rw [← hma]
        have HMA := Lib.hid hma
        clear hma
        rintro e w8 ⟨ao8, c8, rfl, h8⟩
        have H8 := Lib.hid h8
        clear h8 H7 d0 d1
        cases kept
        · have HT := Lib.hid ((H8.out.drop 1).perm ((List.Perm.swap _ _ _).cons _))
          obtain ⟨G2, hG2⟩ : ∃ y, y = HotM.offer h x bs := ⟨_, rfl⟩
          have OK2 : Hid (HotM.Ok G2) := by rw [hG2]; exact HotM.ok_offer OK.out HX.out BL.out
          have RMG : Hid (G2.room = n) := by show _ = _; rw [hG2]; exact (offer_room _ _ _).trans RM.out
          have LS2 : Hid (Lst G2 (fn)) := by rw [hG2]; exact lst_offer0 LS.out HKP.out
          rw [← hG2] at HT
          clear hG2
          obtain ⟨m, hm⟩ : ∃ m, m = (keys G2).length := ⟨_, rfl⟩
          have hmn : m ≤ n := by
            have h1 := OK2.out.len
            rw [RMG.out] at h1
            have h2 : (keys G2).length = G2.L.length := List.length_map ..
            omega
          have HM := Lib.hid hm
          clear hm
          obtain ⟨wm, bm, hmk, hm8⟩ := HT.out.mapMake (P := Try.prog) (kt := 31) (mt := 47) (z := .bool false)
          have HM8 := Lib.hid hm8
          clear hm8 HT
          go_wp2_with (fail)
          refine (K.all HM8.out.below HM8.out.swap2 OK2.out).mono ?_
          rw [← HM.out]
          rintro e wl ⟨al, cl, rfl, hl9⟩
          have H9 := Lib.hid hl9
          clear hl9 HM8 hmk
          go_wp2_with (fail)
          go_loopw [114] (fun v52 ws => ∃ (j nn : Nat) (hd : Lit → Value), j ≤ m ∧ nn ≤ j ∧ v52 = .int .i64 (j : Int) ∧ Own.St w.heap.size w ws [RowU (.slice al m cl) (keys G2) m, K.A p G2, AMap Try.prog 31 (.bool false) bm nn hd, AMap Try.prog 31 (strV []) bl nl hl, AVals b14 34 cs] ∧ ∀ a : Nat, a < 4294967296 → hd (.int .u32 (a : Int)) = .bool (decide (a ∈ (keys G2).take j))) (fun v52 _ => m - (intOf v52).toNat)
          case atStart => exact ⟨0, 0, _, Nat.zero_le _, Nat.le_refl _, rfl, H9.out, fun a _ => by simp⟩
          case round =>
            obtain ⟨j, nn, hd, hjm, hnj, rfl, hst, hhd⟩ := hrel
            have HH := Lib.hid hst
            have HD := Lib.hid hhd
            clear hst hhd H9
            by_cases hj : (j : Int) < (m : Int)
            · have hj2 : j < m := by omega
              have hjl : j < (keys G2).length := by rw [← HM.out]; exact hj2
              obtain ⟨b9, hbb, ⟨u, hu, hc⟩, _, _⟩ := HH.out.rowAt 0 rfl j (by rw [Nat.mul_one]; exact hj2)
              subst hbb
              obtain ⟨y, hy⟩ : ∃ y, y = (keys G2)[j] := ⟨_, rfl⟩
              have hu2 : u = aV y := by
                rw [List.getElem?_map, List.getElem?_eq_getElem hjl, ← hy] at hu
                exact (Option.some.inj hu).symm
              subst hu2
              have hy32 : y < 4294967296 := by
                have hmem : y ∈ keys G2 := by rw [hy]; exact List.getElem_mem hjl
                obtain ⟨it, hit, e⟩ := List.mem_map.1 hmem
                rw [← e]
                exact OK2.out.fits it hit
              have hnot : y ∉ (keys G2).take j := by
                intro hmem
                obtain ⟨q, hq, he⟩ := List.getElem_of_mem hmem
                rw [List.length_take] at hq
                rw [List.getElem_take, hy] at he
                have := (List.getElem_inj OK2.out.once).1 he
                omega
              have htk : (keys G2).take (j + 1) = (keys G2).take j ++ [y] := by rw [List.take_succ_eq_append_getElem hjl, hy]
              have hlk : (Instr.lookup 47 (.map (some bm)) (.int .u32 (y : Int)) false).run Try.prog wr = .ok (.bool false) wr := by
                have hh := HH.out.mapLook 2 rfl u32KeyedH (mt := 47) Try.underlying47 (fun w => by kernel_rfl) (u32_keyH hy32)
                rw [HD.out y hy32, decide_eq_false hnot] at hh
                exact hh
              obtain ⟨w10, hpu, h10⟩ := HH.out.mapPut 2 rfl u32KeyedH (mt := 47) Try.underlying47 (by omega) (u32_keyH hy32) (.bool true)
              simp only [List.set_cons_zero, List.set_cons_succ] at h10
              have H10 := Lib.hid h10
              have HD2 : Hid (∀ a : Nat, a < 4294967296 → putK hd (.int .u32 (y : Int)) (.bool true) (.int .u32 (a : Int)) = .bool (decide (a ∈ (keys G2).take (j + 1)))) := by
                intro a ha
                by_cases hay : a = y
                · subst hay
                  rw [putK_same, htk]
                  simp
                · rw [putK_other (by intro e; cases e; exact hay rfl), HD.out a ha, htk]
                  simp [hay]
              clear h10 hnot htk hu hy hy32
              go_wp2_with (fail)
              clear hlk hpu
              go_roundw
              case rel => exact ⟨j + 1, nn + 1, _, by omega, by omega, by go_num, H10.out, HD2.out⟩
              case measure => simp [intOf]; omega
            · have d0 := (HH.out.cellV 4 rfl 0 K0.out).1
              have d1 := (HH.out.cellV 4 rfl 1 K1.out).1
              obtain ⟨sz, hsz, hlen⟩ := mapLenLe HH.out 2 rfl (mt := 47) Try.underlying47
              have hgt : ¬ (sz : Int) > (n : Int) := by omega
              have HFIN := Lib.hid (Own.St.firsts (As := [K.A p G2, AMap Try.prog 31 (strV []) bl nl hl]) (Bs := [AVals b14 34 cs]) ((((HH.out.drop 1).front 1 rfl).drop 1)))
              go_wp2_with (refine wpList_val rfl (rem_u8 3 (by decide) rfl (by decide) HF3.out _ _ rfl rfl) ?_)
              go_roundw
              case rel => exact ⟨i + 1, G2, nl, hl, fn, by omega, by go_num, HFIN.out, OK2.out, RMG.out, by omega, SP.out, LS2.out⟩
              case measure => simp [intOf]; omega
        · have st8 := given_str (GV.out w8 H8.out.below)
          have d1 := (H8.out.cellV 2 rfl 1 K1.out).1
          have d2 := (H8.out.cellV 2 rfl 2 K2.out).1
          obtain ⟨w9, hpu9, h9⟩ := H8.out.mapPut 3 rfl u32KeyedH (mt := 46) Try.underlying46 (by omega) (u32_keyH HX.out) (strV bs)
          simp only [List.set_cons_zero, List.set_cons_succ] at h9
          have H9 := Lib.hid h9
          obtain ⟨tk, htk⟩ := offer_keys (b := bs) OK.out HKP.out
          have hma1 : 1 ≤ ma := by rw [HMA.out, htk, List.length_cons]; omega
          clear h9 H8
          go_wp2_with (fail)
          clear hpu9 st8 d1 d2
          have c1 := (H9.out.cellV 2 rfl 1 K1.out).1
          obtain ⟨ball, hball, ⟨u, hu, hc0⟩, _, _⟩ := H9.out.rowAt 0 rfl 0 (by omega)
          have hu2 : u = aV x := by
            rw [htk] at hu
            exact (Option.some.inj hu).symm
          subst hball hu2
          clear hu
          have hne : ¬ (ma : Int) = 0 := by omega
          have hne2 : ((ma : Int) == 0) = false := by simp; omega
          have hpos : (0 : Int) < (ma : Int) := by omega
          have hpos2 : 0 < ma := by omega
          go_quiet (fail)
          clear c1 hc0
          have HT := Lib.hid (((H9.out.drewN nq).drop 1).perm ((List.Perm.swap _ _ _).cons _))
          clear H9
          obtain ⟨G2, hG2⟩ : ∃ y, y = HotM.offer h x bs := ⟨_, rfl⟩
          have OK2 : Hid (HotM.Ok G2) := by rw [hG2]; exact HotM.ok_offer OK.out HX.out BL.out
          have RMG : Hid (G2.room = n) := by show _ = _; rw [hG2]; exact (offer_room _ _ _).trans RM.out
          have LS2 : Hid (Lst G2 ((fun c => if c = x then bs else fn c))) := by rw [hG2]; exact lst_offer OK.out LS.out HKP.out (fun c => if c = x then bs else fn c) (if_pos rfl) (fun c hc => if_neg hc)
          rw [← hG2] at HT
          clear hG2
          obtain ⟨m, hm⟩ : ∃ m, m = (keys G2).length := ⟨_, rfl⟩
          have hmn : m ≤ n := by
            have h1 := OK2.out.len
            rw [RMG.out] at h1
            have h2 : (keys G2).length = G2.L.length := List.length_map ..
            omega
          have HM := Lib.hid hm
          clear hm
          obtain ⟨wm, bm, hmk, hm8⟩ := HT.out.mapMake (P := Try.prog) (kt := 31) (mt := 47) (z := .bool false)
          have HM8 := Lib.hid hm8
          clear hm8 HT
          go_wp2_with (fail)
          refine (K.all HM8.out.below HM8.out.swap2 OK2.out).mono ?_
          rw [← HM.out]
          rintro e wl ⟨al, cl, rfl, hl9⟩
          have H9 := Lib.hid hl9
          clear hl9 HM8 hmk
          go_wp2_with (fail)
          go_loopw [114] (fun v52 ws => ∃ (j nn : Nat) (hd : Lit → Value), j ≤ m ∧ nn ≤ j ∧ v52 = .int .i64 (j : Int) ∧ Own.St w.heap.size w ws [RowU (.slice al m cl) (keys G2) m, K.A p G2, AMap Try.prog 31 (.bool false) bm nn hd, AMap Try.prog 31 (strV []) bl (nl + 1) (putK hl (.int .u32 (x : Int)) (strV bs)), AVals b14 34 cs] ∧ ∀ a : Nat, a < 4294967296 → hd (.int .u32 (a : Int)) = .bool (decide (a ∈ (keys G2).take j))) (fun v52 _ => m - (intOf v52).toNat)
          case atStart => exact ⟨0, 0, _, Nat.zero_le _, Nat.le_refl _, rfl, H9.out, fun a _ => by simp⟩
          case round =>
            obtain ⟨j, nn, hd, hjm, hnj, rfl, hst, hhd⟩ := hrel
            have HH := Lib.hid hst
            have HD := Lib.hid hhd
            clear hst hhd H9
            by_cases hj : (j : Int) < (m : Int)
            · have hj2 : j < m := by omega
              have hjl : j < (keys G2).length := by rw [← HM.out]; exact hj2
              obtain ⟨b9, hbb, ⟨u, hu, hc⟩, _, _⟩ := HH.out.rowAt 0 rfl j (by rw [Nat.mul_one]; exact hj2)
              subst hbb
              obtain ⟨y, hy⟩ : ∃ y, y = (keys G2)[j] := ⟨_, rfl⟩
              have hu2 : u = aV y := by
                rw [List.getElem?_map, List.getElem?_eq_getElem hjl, ← hy] at hu
                exact (Option.some.inj hu).symm
              subst hu2
              have hy32 : y < 4294967296 := by
                have hmem : y ∈ keys G2 := by rw [hy]; exact List.getElem_mem hjl
                obtain ⟨it, hit, e⟩ := List.mem_map.1 hmem
                rw [← e]
                exact OK2.out.fits it hit
              have hnot : y ∉ (keys G2).take j := by
                intro hmem
                obtain ⟨q, hq, he⟩ := List.getElem_of_mem hmem
                rw [List.length_take] at hq
                rw [List.getElem_take, hy] at he
                have := (List.getElem_inj OK2.out.once).1 he
                omega
              have htk : (keys G2).take (j + 1) = (keys G2).take j ++ [y] := by rw [List.take_succ_eq_append_getElem hjl, hy]
              have hlk : (Instr.lookup 47 (.map (some bm)) (.int .u32 (y : Int)) false).run Try.prog wr = .ok (.bool false) wr := by
                have hh := HH.out.mapLook 2 rfl u32KeyedH (mt := 47) Try.underlying47 (fun w => by kernel_rfl) (u32_keyH hy32)
                rw [HD.out y hy32, decide_eq_false hnot] at hh
                exact hh
              obtain ⟨w10, hpu, h10⟩ := HH.out.mapPut 2 rfl u32KeyedH (mt := 47) Try.underlying47 (by omega) (u32_keyH hy32) (.bool true)
              simp only [List.set_cons_zero, List.set_cons_succ] at h10
              have H10 := Lib.hid h10
              have HD2 : Hid (∀ a : Nat, a < 4294967296 → putK hd (.int .u32 (y : Int)) (.bool true) (.int .u32 (a : Int)) = .bool (decide (a ∈ (keys G2).take (j + 1)))) := by
                intro a ha
                by_cases hay : a = y
                · subst hay
                  rw [putK_same, htk]
                  simp
                · rw [putK_other (by intro e; cases e; exact hay rfl), HD.out a ha, htk]
                  simp [hay]
              clear h10 hnot htk hu hy hy32
              go_wp2_with (fail)
              clear hlk hpu
              go_roundw
              case rel => exact ⟨j + 1, nn + 1, _, by omega, by omega, by go_num, H10.out, HD2.out⟩
              case measure => simp [intOf]; omega
            · have d0 := (HH.out.cellV 4 rfl 0 K0.out).1
              have d1 := (HH.out.cellV 4 rfl 1 K1.out).1
              obtain ⟨sz, hsz, hlen⟩ := mapLenLe HH.out 2 rfl (mt := 47) Try.underlying47
              have hgt : ¬ (sz : Int) > (n : Int) := by omega
              have HFIN := Lib.hid (Own.St.firsts (As := [K.A p G2, AMap Try.prog 31 (strV []) bl (nl + 1) (putK hl (.int .u32 (x : Int)) (strV bs))]) (Bs := [AVals b14 34 cs]) ((((HH.out.drop 1).front 1 rfl).drop 1)))
              go_wp2_with (refine wpList_val rfl (rem_u8 3 (by decide) rfl (by decide) HF3.out _ _ rfl rfl) ?_)
              go_roundw
              case rel => exact ⟨i + 1, G2, (nl + 1), (putK hl (.int .u32 (x : Int)) (strV bs)), (fun c => if c = x then bs else fn c), by omega, by go_num, HFIN.out, OK2.out, RMG.out, by omega, (sp_put SP.out), LS2.out⟩
              case measure => simp [intOf]; omega
      · skip
        go_wp2_with (first
            | (refine wpList_val rfl (idx_act rfl (show i < k from hik2) _ _ rfl rfl) ?_)
            | (refine wpList_val rfl (load_act cs CSL.out rfl _ (b := b) (k := o + i * 3) RA.out rfl) ?_)
            | (refine wpList_box2 boxy_act rfl rfl rfl (.tmp 13) (.tmp 46) rfl rfl cs (fun _ => rfl) (fun _ => rfl) CSL.out CS1.out HS.out ?_; intro b14 w6 h6; have HX6 := Lib.hid h6; have d0 := (h6.cellV 0 rfl 0 K0.out).1; have d1 := (h6.cellV 0 rfl 1 K1.out).1; have d2 := (h6.cellV 0 rfl 2 K2.out).1; clear h6)
            | (refine wpList_val rfl (rem_u8 3 (by decide) rfl (by decide) HF3.out _ _ rfl rfl) ?_))
        refine (K.get x HX6.out.below HX6.out.swap2 OK.out HX.out).mono ?_
        obtain ⟨is, his⟩ : ∃ y, y = isIn h x := ⟨_, rfl⟩
        obtain ⟨bx, hbx⟩ : ∃ y, y = bytesOf h x := ⟨_, rfl⟩
        rw [← his, ← hbx]
        have HIS := Lib.hid his.symm
        have HBX := Lib.hid hbx
        clear his hbx
        rintro e w7 ⟨a7, c7, rfl, h7⟩
        have H7 := Lib.hid h7
        clear h7 HS HX6 d2 d0 d1
        cases is
        · obtain ⟨nb, hnb⟩ : ∃ y, y = bx.length := ⟨_, rfl⟩
          have hnb0 : nb = 0 := by rw [hnb, HBX.out, bytes_none HIS.out]; rfl
          rw [← hnb] at H7 ⊢
          subst hnb0
          have HT := Lib.hid ((H7.out.drop 1).perm ((List.Perm.swap _ _ _).cons _))
          clear H7 hnb
          obtain ⟨G2, hG2⟩ : ∃ y, y = HotM.get h x := ⟨_, rfl⟩
          have OK2 : Hid (HotM.Ok G2) := by rw [hG2]; exact ok_get OK.out HX.out
          have RMG : Hid (G2.room = n) := by show _ = _; rw [hG2]; exact (get_room _ _).trans RM.out
          have LS2 : Hid (Lst G2 (fn)) := by rw [hG2]; exact lst_get LS.out x
          rw [← hG2] at HT
          clear hG2
          obtain ⟨m, hm⟩ : ∃ m, m = (keys G2).length := ⟨_, rfl⟩
          have hmn : m ≤ n := by
            have h1 := OK2.out.len
            rw [RMG.out] at h1
            have h2 : (keys G2).length = G2.L.length := List.length_map ..
            omega
          have HM := Lib.hid hm
          clear hm
          obtain ⟨wm, bm, hmk, hm8⟩ := HT.out.mapMake (P := Try.prog) (kt := 31) (mt := 47) (z := .bool false)
          have HM8 := Lib.hid hm8
          clear hm8 HT
          go_wp2_with (fail)
          refine (K.all HM8.out.below HM8.out.swap2 OK2.out).mono ?_
          rw [← HM.out]
          rintro e wl ⟨al, cl, rfl, hl9⟩
          have H9 := Lib.hid hl9
          clear hl9 HM8 hmk
          go_wp2_with (fail)
          go_loopw [114] (fun v52 ws => ∃ (j nn : Nat) (hd : Lit → Value), j ≤ m ∧ nn ≤ j ∧ v52 = .int .i64 (j : Int) ∧ Own.St w.heap.size w ws [RowU (.slice al m cl) (keys G2) m, K.A p G2, AMap Try.prog 31 (.bool false) bm nn hd, AMap Try.prog 31 (strV []) bl nl hl, AVals b14 34 cs] ∧ ∀ a : Nat, a < 4294967296 → hd (.int .u32 (a : Int)) = .bool (decide (a ∈ (keys G2).take j))) (fun v52 _ => m - (intOf v52).toNat)
          case atStart => exact ⟨0, 0, _, Nat.zero_le _, Nat.le_refl _, rfl, H9.out, fun a _ => by simp⟩
          case round =>
            obtain ⟨j, nn, hd, hjm, hnj, rfl, hst, hhd⟩ := hrel
            have HH := Lib.hid hst
            have HD := Lib.hid hhd
            clear hst hhd H9
            by_cases hj : (j : Int) < (m : Int)
            · have hj2 : j < m := by omega
              have hjl : j < (keys G2).length := by rw [← HM.out]; exact hj2
              obtain ⟨b9, hbb, ⟨u, hu, hc⟩, _, _⟩ := HH.out.rowAt 0 rfl j (by rw [Nat.mul_one]; exact hj2)
              subst hbb
              obtain ⟨y, hy⟩ : ∃ y, y = (keys G2)[j] := ⟨_, rfl⟩
              have hu2 : u = aV y := by
                rw [List.getElem?_map, List.getElem?_eq_getElem hjl, ← hy] at hu
                exact (Option.some.inj hu).symm
              subst hu2
              have hy32 : y < 4294967296 := by
                have hmem : y ∈ keys G2 := by rw [hy]; exact List.getElem_mem hjl
                obtain ⟨it, hit, e⟩ := List.mem_map.1 hmem
                rw [← e]
                exact OK2.out.fits it hit
              have hnot : y ∉ (keys G2).take j := by
                intro hmem
                obtain ⟨q, hq, he⟩ := List.getElem_of_mem hmem
                rw [List.length_take] at hq
                rw [List.getElem_take, hy] at he
                have := (List.getElem_inj OK2.out.once).1 he
                omega
              have htk : (keys G2).take (j + 1) = (keys G2).take j ++ [y] := by rw [List.take_succ_eq_append_getElem hjl, hy]
              have hlk : (Instr.lookup 47 (.map (some bm)) (.int .u32 (y : Int)) false).run Try.prog wr = .ok (.bool false) wr := by
                have hh := HH.out.mapLook 2 rfl u32KeyedH (mt := 47) Try.underlying47 (fun w => by kernel_rfl) (u32_keyH hy32)
                rw [HD.out y hy32, decide_eq_false hnot] at hh
                exact hh
              obtain ⟨w10, hpu, h10⟩ := HH.out.mapPut 2 rfl u32KeyedH (mt := 47) Try.underlying47 (by omega) (u32_keyH hy32) (.bool true)
              simp only [List.set_cons_zero, List.set_cons_succ] at h10
              have H10 := Lib.hid h10
              have HD2 : Hid (∀ a : Nat, a < 4294967296 → putK hd (.int .u32 (y : Int)) (.bool true) (.int .u32 (a : Int)) = .bool (decide (a ∈ (keys G2).take (j + 1)))) := by
                intro a ha
                by_cases hay : a = y
                · subst hay
                  rw [putK_same, htk]
                  simp
                · rw [putK_other (by intro e; cases e; exact hay rfl), HD.out a ha, htk]
                  simp [hay]
              clear h10 hnot htk hu hy hy32
              go_wp2_with (fail)
              clear hlk hpu
              go_roundw
              case rel => exact ⟨j + 1, nn + 1, _, by omega, by omega, by go_num, H10.out, HD2.out⟩
              case measure => simp [intOf]; omega
            · have d0 := (HH.out.cellV 4 rfl 0 K0.out).1
              have d1 := (HH.out.cellV 4 rfl 1 K1.out).1
              obtain ⟨sz, hsz, hlen⟩ := mapLenLe HH.out 2 rfl (mt := 47) Try.underlying47
              have hgt : ¬ (sz : Int) > (n : Int) := by omega
              have HFIN := Lib.hid (Own.St.firsts (As := [K.A p G2, AMap Try.prog 31 (strV []) bl nl hl]) (Bs := [AVals b14 34 cs]) ((((HH.out.drop 1).front 1 rfl).drop 1)))
              go_wp2_with (refine wpList_val rfl (rem_u8 3 (by decide) rfl (by decide) HF3.out _ _ rfl rfl) ?_)
              go_roundw
              case rel => exact ⟨i + 1, G2, nl, hl, fn, by omega, by go_num, HFIN.out, OK2.out, RMG.out, by omega, SP.out, LS2.out⟩
              case measure => simp [intOf]; omega
        · have st7 := given_str (given_own H7.out 0 rfl)
          have hlk7 : (Instr.lookup 46 (.map (some bl)) (.int .u32 (x : Int)) false).run Try.prog w7 = .ok (strV bx) w7 := by
            have hh := H7.out.mapLook 3 rfl u32KeyedH (mt := 46) Try.underlying46 (fun w => by kernel_rfl) (u32_keyH HX.out)
            rw [SP.out x HX.out, ← lst_bytes LS.out HIS.out, ← HBX.out] at hh
            exact hh
          have d1 := (H7.out.cellV 2 rfl 1 K1.out).1
          have HT := Lib.hid ((H7.out.drop 1).perm ((List.Perm.swap _ _ _).cons _))
          clear H7
          obtain ⟨G2, hG2⟩ : ∃ y, y = HotM.get h x := ⟨_, rfl⟩
          have OK2 : Hid (HotM.Ok G2) := by rw [hG2]; exact ok_get OK.out HX.out
          have RMG : Hid (G2.room = n) := by show _ = _; rw [hG2]; exact (get_room _ _).trans RM.out
          have LS2 : Hid (Lst G2 (fn)) := by rw [hG2]; exact lst_get LS.out x
          rw [← hG2] at HT
          clear hG2
          obtain ⟨m, hm⟩ : ∃ m, m = (keys G2).length := ⟨_, rfl⟩
          have hmn : m ≤ n := by
            have h1 := OK2.out.len
            rw [RMG.out] at h1
            have h2 : (keys G2).length = G2.L.length := List.length_map ..
            omega
          have HM := Lib.hid hm
          clear hm
          obtain ⟨wm, bm, hmk, hm8⟩ := HT.out.mapMake (P := Try.prog) (kt := 31) (mt := 47) (z := .bool false)
          have HM8 := Lib.hid hm8
          clear hm8 HT
          go_wp2_with (refine wpList_val rfl (neq_str rfl bx bx false (by simp) _ _ rfl rfl) ?_)
          clear st7 hlk7 d1
          refine (K.all HM8.out.below HM8.out.swap2 OK2.out).mono ?_
          rw [← HM.out]
          rintro e wl ⟨al, cl, rfl, hl9⟩
          have H9 := Lib.hid hl9
          clear hl9 HM8 hmk
          go_wp2_with (fail)
          go_loopw [114] (fun v52 ws => ∃ (j nn : Nat) (hd : Lit → Value), j ≤ m ∧ nn ≤ j ∧ v52 = .int .i64 (j : Int) ∧ Own.St w.heap.size w ws [RowU (.slice al m cl) (keys G2) m, K.A p G2, AMap Try.prog 31 (.bool false) bm nn hd, AMap Try.prog 31 (strV []) bl nl hl, AVals b14 34 cs] ∧ ∀ a : Nat, a < 4294967296 → hd (.int .u32 (a : Int)) = .bool (decide (a ∈ (keys G2).take j))) (fun v52 _ => m - (intOf v52).toNat)
          case atStart => exact ⟨0, 0, _, Nat.zero_le _, Nat.le_refl _, rfl, H9.out, fun a _ => by simp⟩
          case round =>
            obtain ⟨j, nn, hd, hjm, hnj, rfl, hst, hhd⟩ := hrel
            have HH := Lib.hid hst
            have HD := Lib.hid hhd
            clear hst hhd H9
            by_cases hj : (j : Int) < (m : Int)
            · have hj2 : j < m := by omega
              have hjl : j < (keys G2).length := by rw [← HM.out]; exact hj2
              obtain ⟨b9, hbb, ⟨u, hu, hc⟩, _, _⟩ := HH.out.rowAt 0 rfl j (by rw [Nat.mul_one]; exact hj2)
              subst hbb
              obtain ⟨y, hy⟩ : ∃ y, y = (keys G2)[j] := ⟨_, rfl⟩
              have hu2 : u = aV y := by
                rw [List.getElem?_map, List.getElem?_eq_getElem hjl, ← hy] at hu
                exact (Option.some.inj hu).symm
              subst hu2
              have hy32 : y < 4294967296 := by
                have hmem : y ∈ keys G2 := by rw [hy]; exact List.getElem_mem hjl
                obtain ⟨it, hit, e⟩ := List.mem_map.1 hmem
                rw [← e]
                exact OK2.out.fits it hit
              have hnot : y ∉ (keys G2).take j := by
                intro hmem
                obtain ⟨q, hq, he⟩ := List.getElem_of_mem hmem
                rw [List.length_take] at hq
                rw [List.getElem_take, hy] at he
                have := (List.getElem_inj OK2.out.once).1 he
                omega
              have htk : (keys G2).take (j + 1) = (keys G2).take j ++ [y] := by rw [List.take_succ_eq_append_getElem hjl, hy]
              have hlk : (Instr.lookup 47 (.map (some bm)) (.int .u32 (y : Int)) false).run Try.prog wr = .ok (.bool false) wr := by
                have hh := HH.out.mapLook 2 rfl u32KeyedH (mt := 47) Try.underlying47 (fun w => by kernel_rfl) (u32_keyH hy32)
                rw [HD.out y hy32, decide_eq_false hnot] at hh
                exact hh
              obtain ⟨w10, hpu, h10⟩ := HH.out.mapPut 2 rfl u32KeyedH (mt := 47) Try.underlying47 (by omega) (u32_keyH hy32) (.bool true)
              simp only [List.set_cons_zero, List.set_cons_succ] at h10
              have H10 := Lib.hid h10
              have HD2 : Hid (∀ a : Nat, a < 4294967296 → putK hd (.int .u32 (y : Int)) (.bool true) (.int .u32 (a : Int)) = .bool (decide (a ∈ (keys G2).take (j + 1)))) := by
                intro a ha
                by_cases hay : a = y
                · subst hay
                  rw [putK_same, htk]
                  simp
                · rw [putK_other (by intro e; cases e; exact hay rfl), HD.out a ha, htk]
                  simp [hay]
              clear h10 hnot htk hu hy hy32
              go_wp2_with (fail)
              clear hlk hpu
              go_roundw
              case rel => exact ⟨j + 1, nn + 1, _, by omega, by omega, by go_num, H10.out, HD2.out⟩
              case measure => simp [intOf]; omega
            · have d0 := (HH.out.cellV 4 rfl 0 K0.out).1
              have d1 := (HH.out.cellV 4 rfl 1 K1.out).1
              obtain ⟨sz, hsz, hlen⟩ := mapLenLe HH.out 2 rfl (mt := 47) Try.underlying47
              have hgt : ¬ (sz : Int) > (n : Int) := by omega
              have HFIN := Lib.hid (Own.St.firsts (As := [K.A p G2, AMap Try.prog 31 (strV []) bl nl hl]) (Bs := [AVals b14 34 cs]) ((((HH.out.drop 1).front 1 rfl).drop 1)))
              go_wp2_with (refine wpList_val rfl (rem_u8 3 (by decide) rfl (by decide) HF3.out _ _ rfl rfl) ?_)
              go_roundw
              case rel => exact ⟨i + 1, G2, nl, hl, fn, by omega, by go_num, HFIN.out, OK2.out, RMG.out, by omega, SP.out, LS2.out⟩
              case measure => simp [intOf]; omega
      · skip
        go_wp2_with (first
            | (refine wpList_val rfl (idx_act rfl (show i < k from hik2) _ _ rfl rfl) ?_)
            | (refine wpList_val rfl (load_act cs CSL.out rfl _ (b := b) (k := o + i * 3) RA.out rfl) ?_)
            | (refine wpList_box2 boxy_act rfl rfl rfl (.tmp 13) (.tmp 46) rfl rfl cs (fun _ => rfl) (fun _ => rfl) CSL.out CS1.out HS.out ?_; intro b14 w6 h6; have HX6 := Lib.hid h6; have d0 := (h6.cellV 0 rfl 0 K0.out).1; have d1 := (h6.cellV 0 rfl 1 K1.out).1; have d2 := (h6.cellV 0 rfl 2 K2.out).1; clear h6)
            | (refine wpList_val rfl (rem_u8 3 (by decide) rfl (by decide) HF3.out _ _ rfl rfl) ?_))
        refine (K.drop x HX6.out.below HX6.out.swap2 OK.out HX.out).mono ?_
        rintro e w7 ⟨rfl, h7⟩
        have HT := Lib.hid (h7.perm ((List.Perm.swap _ _ _).cons _))
        clear h7 HS HX6 d0 d1 d2
        obtain ⟨G2, hG2⟩ : ∃ y, y = HotM.drop h x := ⟨_, rfl⟩
        have OK2 : Hid (HotM.Ok G2) := by rw [hG2]; exact HotM.ok_drop OK.out x
        have RMG : Hid (G2.room = n) := by show _ = _; rw [hG2]; exact RM.out
        have LS2 : Hid (Lst G2 (fn)) := by rw [hG2]; exact lst_drop LS.out x
        have HGN : Hid (x ∉ keys G2) := by rw [hG2]; exact drop_gone OK.out x
        rw [← hG2] at HT
        clear hG2
        obtain ⟨m, hm⟩ : ∃ m, m = (keys G2).length := ⟨_, rfl⟩
        have hmn : m ≤ n := by
          have h1 := OK2.out.len
          rw [RMG.out] at h1
          have h2 : (keys G2).length = G2.L.length := List.length_map ..
          omega
        have HM := Lib.hid hm
        clear hm
        obtain ⟨wm, bm, hmk, hm8⟩ := HT.out.mapMake (P := Try.prog) (kt := 31) (mt := 47) (z := .bool false)
        have HM8 := Lib.hid hm8
        clear hm8 HT
        go_wp2_with (fail)
        refine (K.all HM8.out.below HM8.out.swap2 OK2.out).mono ?_
        rw [← HM.out]
        rintro e wl ⟨al, cl, rfl, hl9⟩
        have H9 := Lib.hid hl9
        clear hl9 HM8 hmk
        go_wp2_with (fail)
        go_loopw [114] (fun v52 ws => ∃ (j nn : Nat) (hd : Lit → Value), j ≤ m ∧ nn ≤ j ∧ v52 = .int .i64 (j : Int) ∧ Own.St w.heap.size w ws [RowU (.slice al m cl) (keys G2) m, K.A p G2, AMap Try.prog 31 (.bool false) bm nn hd, AMap Try.prog 31 (strV []) bl nl hl, AVals b14 34 cs] ∧ ∀ a : Nat, a < 4294967296 → hd (.int .u32 (a : Int)) = .bool (decide (a ∈ (keys G2).take j))) (fun v52 _ => m - (intOf v52).toNat)
        case atStart => exact ⟨0, 0, _, Nat.zero_le _, Nat.le_refl _, rfl, H9.out, fun a _ => by simp⟩
        case round =>
          obtain ⟨j, nn, hd, hjm, hnj, rfl, hst, hhd⟩ := hrel
          have HH := Lib.hid hst
          have HD := Lib.hid hhd
          clear hst hhd H9
          by_cases hj : (j : Int) < (m : Int)
          · have hj2 : j < m := by omega
            have hjl : j < (keys G2).length := by rw [← HM.out]; exact hj2
            obtain ⟨b9, hbb, ⟨u, hu, hc⟩, _, _⟩ := HH.out.rowAt 0 rfl j (by rw [Nat.mul_one]; exact hj2)
            subst hbb
            obtain ⟨y, hy⟩ : ∃ y, y = (keys G2)[j] := ⟨_, rfl⟩
            have hu2 : u = aV y := by
              rw [List.getElem?_map, List.getElem?_eq_getElem hjl, ← hy] at hu
              exact (Option.some.inj hu).symm
            subst hu2
            have hy32 : y < 4294967296 := by
              have hmem : y ∈ keys G2 := by rw [hy]; exact List.getElem_mem hjl
              obtain ⟨it, hit, e⟩ := List.mem_map.1 hmem
              rw [← e]
              exact OK2.out.fits it hit
            have hnot : y ∉ (keys G2).take j := by
              intro hmem
              obtain ⟨q, hq, he⟩ := List.getElem_of_mem hmem
              rw [List.length_take] at hq
              rw [List.getElem_take, hy] at he
              have := (List.getElem_inj OK2.out.once).1 he
              omega
            have htk : (keys G2).take (j + 1) = (keys G2).take j ++ [y] := by rw [List.take_succ_eq_append_getElem hjl, hy]
            have hlk : (Instr.lookup 47 (.map (some bm)) (.int .u32 (y : Int)) false).run Try.prog wr = .ok (.bool false) wr := by
              have hh := HH.out.mapLook 2 rfl u32KeyedH (mt := 47) Try.underlying47 (fun w => by kernel_rfl) (u32_keyH hy32)
              rw [HD.out y hy32, decide_eq_false hnot] at hh
              exact hh
            obtain ⟨w10, hpu, h10⟩ := HH.out.mapPut 2 rfl u32KeyedH (mt := 47) Try.underlying47 (by omega) (u32_keyH hy32) (.bool true)
            simp only [List.set_cons_zero, List.set_cons_succ] at h10
            have H10 := Lib.hid h10
            have HD2 : Hid (∀ a : Nat, a < 4294967296 → putK hd (.int .u32 (y : Int)) (.bool true) (.int .u32 (a : Int)) = .bool (decide (a ∈ (keys G2).take (j + 1)))) := by
              intro a ha
              by_cases hay : a = y
              · subst hay
                rw [putK_same, htk]
                simp
              · rw [putK_other (by intro e; cases e; exact hay rfl), HD.out a ha, htk]
                simp [hay]
            clear h10 hnot htk hu hy hy32
            go_wp2_with (fail)
            clear hlk hpu
            go_roundw
            case rel => exact ⟨j + 1, nn + 1, _, by omega, by omega, by go_num, H10.out, HD2.out⟩
            case measure => simp [intOf]; omega
          · have d0 := (HH.out.cellV 4 rfl 0 K0.out).1
            have d1 := (HH.out.cellV 4 rfl 1 K1.out).1
            obtain ⟨sz, hsz, hlen⟩ := mapLenLe HH.out 2 rfl (mt := 47) Try.underlying47
            have hgt : ¬ (sz : Int) > (n : Int) := by omega
            have hlk : (Instr.lookup 47 (.map (some bm)) (.int .u32 (x : Int)) false).run Try.prog wr = .ok (.bool false) wr := by
              have hh := HH.out.mapLook 2 rfl u32KeyedH (mt := 47) Try.underlying47 (fun w => by kernel_rfl) (u32_keyH HX.out)
              rw [HD.out x HX.out, decide_eq_false (fun hm => HGN.out (List.mem_of_mem_take hm))] at hh
              exact hh
            have HFIN := Lib.hid (Own.St.firsts (As := [K.A p G2, AMap Try.prog 31 (strV []) bl nl hl]) (Bs := [AVals b14 34 cs]) ((((HH.out.drop 1).front 1 rfl).drop 1)))
            go_wp2_with (refine wpList_val rfl (rem_u8 3 (by decide) rfl (by decide) HF3.out _ _ rfl rfl) ?_)
            go_roundw
            case rel => exact ⟨i + 1, G2, nl, hl, fn, by omega, by go_num, HFIN.out, OK2.out, RMG.out, by omega, SP.out, LS2.out⟩
            case measure => simp [intOf]; omega
    · go_wp2_with (fail)
      go_ret
      exact ⟨rfl, HS.out.below⟩
end Hot
end Go.Proofs.Ytameigmoabimiaa

end
section
namespace Go.Own
open Go.RowKit

def updL (L : Nat → Bool) (i : Nat) : Nat → Bool := fun j => if j = i then true else L j
section
variable {P : Program} {ops : Array Oper} {md : Region.Mode} {CL : (Nat → Bool) → World → Prop}
/-- what may be taken for granted when operation i comes up -/
structure Comes (ops : Array Oper) (md : Region.Mode) (i : Nat) (o : Oper) (L : Nat → Bool) : Prop where
  not : L i = false
  closed : ∀ (j : Nat) (oj : Oper), ops[j]? = some oj → L j = true → ∀ e ∈ oj.after, Region.binds md e = true → L e.on = true
  ready : ∀ e ∈ o.after, Region.binds md e = true → L e.on = true
inductive StepG (P : Program) (ops : Array Oper) (md : Region.Mode) (CL : (Nat → Bool) → World → Prop) (i : Nat) (o : Oper) (a : Act) : Act → Prop
  | skip (hw : Region.wanted o (yielded ops a.tmps) = false) (hq : ∀ L w, CL L w → Comes ops md i o L → CL (updL L i) w) : StepG P ops md CL i o a (a.put o.dst undef)
  | val (v : Value) (hw : Region.wanted o (yielded ops a.tmps) = true)
      (h : ∀ L a1 w, CL L w → Comes ops md i o L → (∀ t ∈ o.looksAt ops, a1.tmps.getD t undef = a.tmps.getD t undef) → ∀ (K : Act → World → Prop) (Q : Exit → Act → World → Prop), (∀ w', CL (updL L i) w' → K (a1.put o.dst v) w') → o.wp P a1 w K Q) : StepG P ops md CL i o a (a.put o.dst v)

structure InvG (md : Region.Mode) (ops : Array Oper) (CL : (Nat → Bool) → World → Prop) (a0 : Act) (S : Nat → Act) (listed : Array Bool) (a1 : Act) (w1 : World) : Prop where
  world : CL (fun j => listed.getD j false) w1
  defers : a1.defers = a0.defers
  size : a1.tmps.size = a0.tmps.size
  lsize : listed.size = ops.size
  closed : ∀ (j : Nat) (oj : Oper), ops[j]? = some oj → listed.getD j false = true → ∀ e ∈ oj.after, Region.binds md e = true → listed.getD e.on false = true
  done : ∀ (j : Nat) (oj : Oper) (d : Tmp), ops[j]? = some oj → listed.getD j false = true → oj.dst = some d → a1.tmps.getD d undef = (S (j + 1)).tmps.getD d undef
  rest : ∀ t, (∀ (j : Nat) (oj : Oper), ops[j]? = some oj → listed.getD j false = true → oj.dst ≠ some t) → a1.tmps.getD t undef = a0.tmps.getD t undef

theorem StepG.put {i : Nat} {o : Oper} {a a' : Act} (h : StepG P ops md CL i o a a') : ∃ v, a' = a.put o.dst v := by
  cases h with
  | skip => exact ⟨_, rfl⟩
  | val v => exact ⟨v, rfl⟩
theorem sizesG {a0 : Act} {S : Nat → Act} (hS0 : S 0 = a0) (hst : ∀ (k : Nat) (o : Oper), ops[k]? = some o → StepG P ops md CL k o (S k) (S (k + 1))) :
    ∀ k, k ≤ ops.size → (S k).tmps.size = a0.tmps.size ∧ (S k).defers = a0.defers
  | 0, _ => by rw [hS0]; exact ⟨rfl, rfl⟩
  | k + 1, hk => by
    have h := sizesG hS0 hst k (by omega)
    obtain ⟨v, g⟩ := (hst k ops[k] (Array.getElem?_eq_getElem (by omega))).put
    rw [g]
    exact ⟨(put_size _ _ _).trans h.1, (put_defers _ _ _).trans h.2⟩
theorem otherG {a0 : Act} {S : Nat → Act} (hS0 : S 0 = a0) (hst : ∀ (k : Nat) (o : Oper), ops[k]? = some o → StepG P ops md CL k o (S k) (S (k + 1)))
    (hin : ∀ (k : Nat) (o : Oper) (d : Tmp), ops[k]? = some o → o.dst = some d → d < a0.tmps.size) {t : Tmp} (m : Nat) :
    ∀ q, m + q ≤ ops.size → (∀ j oj, m ≤ j → j < m + q → ops[j]? = some oj → oj.dst ≠ some t) → (S (m + q)).tmps.getD t undef = (S m).tmps.getD t undef
  | 0, _, _ => rfl
  | q + 1, hq, hno => by
    have ih := otherG hS0 hst hin (t := t) m q (by omega) (fun j oj h1 h2 => hno j oj h1 (by omega))
    have hk : ops[m + q]? = some ops[m + q] := Array.getElem?_eq_getElem (by omega)
    have hs := sizesG hS0 hst (m + q) (by omega)
    obtain ⟨v, g⟩ := (hst (m + q) _ hk).put
    refine Eq.trans ?_ ih
    show (S (m + q + 1)).tmps.getD t undef = _
    rw [g]
    have hd := hno (m + q) _ (by omega) (by omega) hk
    cases hdd : (ops[m + q]).dst with
    | none => rfl
    | some d => rw [put_getD _ d t v (by rw [hs.1]; exact hin _ _ d hk hdd), if_neg (fun e => hd (by rw [hdd, e]))]

theorem wpAny_G {Q' : Exit → Act → World → Prop} {a0 : Act} {S : Nat → Act} (hS0 : S 0 = a0)
    (hst : ∀ (k : Nat) (o : Oper), ops[k]? = some o → StepG P ops md CL k o (S k) (S (k + 1)))
    (hin : ∀ (k : Nat) (o : Oper) (d : Tmp), ops[k]? = some o → o.dst = some d → d < a0.tmps.size)
    (hone : ∀ (j k : Nat) (x y : Oper) (d : Tmp), ops[j]? = some x → ops[k]? = some y → x.dst = some d → y.dst = some d → j = k)
    (hlex : ∀ (i : Nat) (oi : Oper), ops[i]? = some oi → (∀ e ∈ oi.after, Region.binds md e = true → e.on < i) ∧ ∀ j oj, i < j → ops[j]? = some oj → (∃ e ∈ oj.after, Region.binds md e = true ∧ e.on = i) ∨ oi.apart ops oj = true)
    (hfin : ∀ (a1 : Act) (w1 : World) (L : Nat → Bool), CL L w1 → (∀ i, i < ops.size → L i = true) → a1 = S ops.size → Q' .normal a1 w1) :
    ∀ (fuel : Nat) (listed : Array Bool) (a1 : Act) (w1 : World), (∃ s, (List.range ops.size).filter (fun i => !listed.getD i true) = s ∧ s.length = fuel) → InvG md ops CL a0 S listed a1 w1 → wpAny P md ops Q' fuel listed a1 w1 := by
  have hready : ∀ listed : Array Bool, listed.size = ops.size → Region.ready md ops listed = [] → ∀ i, i < ops.size → listed.getD i true = true := by
    intro listed hls hr i
    induction i using Nat.strongRecOn with
    | _ i ih =>
      intro hi
      rcases hb : listed.getD i true with _ | _
      · exfalso
        have : i ∈ Region.ready md ops listed := by
          refine mem_ready.2 ⟨hb, ops[i], Array.getElem?_eq_getElem hi, fun e he hbd => ?_⟩
          have h1 := (hlex i _ (Array.getElem?_eq_getElem hi)).1 e he hbd
          have h2 := ih e.on h1 (by omega)
          have h3 : e.on < listed.size := by omega
          simpa [h3] using h2
        rw [hr] at this
        cases this
      · rfl
  have hend : ∀ (fuel : Nat) (listed : Array Bool) (a1 : Act) (w1 : World), InvG md ops CL a0 S listed a1 w1 → (∀ i, i < ops.size → listed.getD i true = true) → wpAny P md ops Q' fuel listed a1 w1 := by
    intro fuel listed a1 w1 hI hall
    have hsz := sizesG hS0 hst ops.size (Nat.le_refl _)
    have hallf : ∀ i, i < ops.size → listed.getD i false = true := by
      intro i hi
      have h1 := hall i hi
      have h2 : i < listed.size := by rw [hI.lsize]; exact hi
      simpa [h2] using h1
    have hnr : Region.ready md ops listed = [] := by
      apply List.eq_nil_iff_forall_not_mem.2
      intro i hi
      obtain ⟨h0, o, ho, _⟩ := mem_ready.1 hi
      have := hall i (Array.getElem?_eq_some_iff.1 ho).1
      rw [this] at h0; cases h0
    refine wpAny_done hnr (hfin a1 w1 _ hI.world hallf ?_) fuel
    have hslot : ∀ t, a1.tmps.getD t undef = (S ops.size).tmps.getD t undef := by
      intro t
      by_cases hw : ∃ (j : Nat) (oj : Oper), ops[j]? = some oj ∧ oj.dst = some t
      · obtain ⟨j, oj, hj, hd⟩ := hw
        have hjl := (Array.getElem?_eq_some_iff.1 hj).1
        have h1 := hI.done j oj t hj (hallf j hjl) hd
        have h2 := otherG hS0 hst hin (t := t) (j + 1) (ops.size - (j + 1)) (by omega) (fun i oi h1 h2 hi hdi => by
          have := hone i j oi oj t hi hj hdi hd; omega)
        rw [show j + 1 + (ops.size - (j + 1)) = ops.size by omega] at h2
        exact h1.trans h2.symm
      · have h1 := hI.rest t (fun j oj hj hl hd => hw ⟨j, oj, hj, hd⟩)
        have h2 := otherG hS0 hst hin (t := t) 0 ops.size (by omega) (fun j oj _ h2 hj hd => hw ⟨j, oj, hj, hd⟩)
        rw [Nat.zero_add, hS0] at h2
        exact h1.trans h2.symm
    have hts : a1.tmps = (S ops.size).tmps := by
      apply Array.ext
      · rw [hI.size, hsz.1]
      · intro i h1 h2
        have := hslot i
        simpa [Array.getD, h1, h2] using this
    have hds : a1.defers = (S ops.size).defers := hI.defers.trans hsz.2.symm
    cases a1
    cases hS : S ops.size
    rw [hS] at hts hds
    simp only at hts hds
    subst hts hds
    rfl
  intro fuel
  induction fuel with
  | zero =>
    rintro listed a1 w1 ⟨s, hs, hlen⟩ hI
    refine hend 0 listed a1 w1 hI (fun i hi => ?_)
    have hnil : s = [] := List.eq_nil_of_length_eq_zero hlen
    subst hnil
    have := List.filter_eq_nil_iff.1 hs i (List.mem_range.2 (by omega))
    simpa using this
  | succ fuel ih =>
    rintro listed a1 w1 ⟨s, hs, hlen⟩ hI
    by_cases hdone : ∀ i, i < ops.size → listed.getD i true = true
    · exact hend (fuel + 1) listed a1 w1 hI hdone
    refine ⟨fun h0 => absurd (fun i hi => hready listed hI.lsize h0 i (by omega)) hdone, fun i hi => ?_⟩
    obtain ⟨hun, oi, hoi, hall⟩ := mem_ready.1 hi
    have hil := (Array.getElem?_eq_some_iff.1 hoi).1
    have hill : i < listed.size := by rw [hI.lsize]; exact hil
    have hunf : listed.getD i false = false := by simpa [hill] using hun
    have hcount : ∃ s', (List.range ops.size).filter (fun j => !(listed.setIfInBounds i true).getD j true) = s' ∧ s'.length = fuel := by
      refine ⟨_, rfl, ?_⟩
      have hn : (List.range ops.size).Nodup := List.nodup_range
      have e : (List.range ops.size).filter (fun j => !(listed.setIfInBounds i true).getD j true) = ((List.range ops.size).filter fun j => !listed.getD j true).erase i := by
        rw [List.Nodup.erase_eq_filter (List.Pairwise.filter _ hn), List.filter_filter]
        apply List.filter_congr
        intro j hj
        by_cases hji : j = i
        · subst hji; simp [hill]
        · rw [getD_set_ne true (Ne.symm hji)]; simp [hji]
      rw [e, List.length_erase_of_mem (List.mem_filter.2 ⟨List.mem_range.2 hil, by simp only [hun]; rfl⟩), hs, hlen]
      rfl
    have hlook : ∀ t ∈ oi.looksAt ops, a1.tmps.getD t undef = (S i).tmps.getD t undef := by
      intro t ht
      have hback : (∀ (j : Nat) (oj : Oper), ops[j]? = some oj → oj.dst = some t → i ≤ j) → (∀ (j : Nat) (oj : Oper), ops[j]? = some oj → oj.dst = some t → listed.getD j false = false) → a1.tmps.getD t undef = (S i).tmps.getD t undef := by
        intro h1 h2
        have h3 := otherG hS0 hst hin (t := t) 0 i (by omega) (fun j oj _ hj ho hd => by have := h1 j oj ho hd; omega)
        rw [Nat.zero_add, hS0] at h3
        refine Eq.trans (hI.rest t (fun j oj hj hl hd => ?_)) h3.symm
        rw [h2 j oj hj hd] at hl; cases hl
      by_cases hw : ∃ (j : Nat) (oj : Oper), ops[j]? = some oj ∧ oj.dst = some t
      · obtain ⟨j, oj, hj, hd⟩ := hw
        have huniq : ∀ (j' : Nat) (oj' : Oper), ops[j']? = some oj' → oj'.dst = some t → j' = j := fun j' oj' h1 h2 => hone j' j oj' oj t h1 hj h2 hd
        rcases Nat.lt_trichotomy j i with hji | hji | hji
        · rcases (hlex j oj hj).2 i oi hji hoi with ⟨e, he, hb, heq⟩ | hap
          · have hl : listed.getD j false = true := by rw [← heq]; exact hall e he hb
            have h1 := hI.done j oj t hj hl hd
            have h2 := otherG hS0 hst hin (t := t) (j + 1) (i - (j + 1)) (by omega) (fun j' oj' h1 _ h3 h4 => by have := huniq j' oj' h3 h4; omega)
            rw [show j + 1 + (i - (j + 1)) = i by omega] at h2
            exact h1.trans h2.symm
          · exact absurd ht ((Oper.apart_spec hap).1 t hd)
        · subst hji
          refine hback (fun j' oj' h1 h2 => by have := huniq j' oj' h1 h2; omega) (fun j' oj' h1 h2 => by rw [huniq j' oj' h1 h2]; exact hunf)
        · rcases (hlex i oi hoi).2 j oj hji hj with ⟨e, he, hb, heq⟩ | hap
          · refine hback (fun j' oj' h1 h2 => by have := huniq j' oj' h1 h2; omega) (fun j' oj' h1 h2 => ?_)
            rw [huniq j' oj' h1 h2]
            rcases hlj : listed.getD j false with _ | _
            · rfl
            · have := hI.closed j oj hj hlj e he hb
              rw [heq, hunf] at this; cases this
          · exact absurd ht ((Oper.apart_spec hap).2.2 t hd)
      · exact hback (fun j oj h1 h2 => absurd ⟨j, oj, h1, h2⟩ hw) (fun j oj h1 h2 => absurd ⟨j, oj, h1, h2⟩ hw)
    have hsz := sizesG hS0 hst i (by omega)
    have hsame : a1.tmps.size = (S i).tmps.size := hI.size.trans hsz.1.symm
    have hupd : (fun j => (listed.setIfInBounds i true).getD j false) = updL (fun j => listed.getD j false) i := by
      funext j
      unfold updL
      by_cases hji : j = i
      · subst hji; simp [hill]
      · rw [getD_set_ne false (Ne.symm hji), if_neg hji]
    have hcomes : Comes ops md i oi (fun j => listed.getD j false) := ⟨hunf, hI.closed, hall⟩
    have hnext : ∀ (v : Value) (w' : World), S (i + 1) = (S i).put oi.dst v → CL (updL (fun j => listed.getD j false) i) w' → InvG md ops CL a0 S (listed.setIfInBounds i true) (a1.put oi.dst v) w' := by
      intro v w' hv hb
      have hget : ∀ t, oi.dst ≠ some t → (a1.put oi.dst v).tmps.getD t undef = a1.tmps.getD t undef := by
        intro t ht
        cases hd : oi.dst with
        | none => rfl
        | some d => rw [put_getD a1 d t v (by rw [hI.size]; exact hin i oi d hoi hd), if_neg (fun e => ht (by rw [hd, e]))]
      have hlist : ∀ j, (listed.setIfInBounds i true).getD j false = true → j = i ∨ listed.getD j false = true := by
        intro j hj
        by_cases hji : j = i
        · exact .inl hji
        · rw [getD_set_ne false (Ne.symm hji)] at hj; exact .inr hj
      refine ⟨by rw [hupd]; exact hb, (put_defers _ _ _).trans hI.defers, (put_size _ _ _).trans hI.size, by simpa using hI.lsize, fun j oj hj hl e he hbd => ?_, fun j oj d hj hl hd => ?_, fun t ht => ?_⟩
      · rcases hlist j hl with rfl | hl
        · obtain rfl : oj = oi := by rw [hoi] at hj; simpa using hj.symm
          exact getD_set_true (hall e he hbd)
        · exact getD_set_true (hI.closed j oj hj hl e he hbd)
      · rcases hlist j hl with rfl | hl
        · obtain rfl : oj = oi := by rw [hoi] at hj; simpa using hj.symm
          rw [hv, hd, put_getD a1 d d v (by rw [hI.size]; exact hin j oj d hj hd), if_pos rfl, put_getD (S j) d d v (by rw [hsz.1]; exact hin j oj d hj hd), if_pos rfl]
        · have hne : oi.dst ≠ some d := by
            intro h
            have := hone i j oi oj d hoi hj h hd
            subst this
            rw [hunf] at hl; cases hl
          rw [hget d hne]
          exact hI.done j oj d hj hl hd
      · have hne : oi.dst ≠ some t := ht i oi hoi (by simp [hill])
        rw [hget t hne]
        exact hI.rest t (fun j oj hj hl => ht j oj hj (getD_set_true hl))
    have hwl : Region.wanted oi (yielded ops a1.tmps) = Region.wanted oi (yielded ops (S i).tmps) :=
      wanted_looks (I := []) (w := w1) (by unfold guardKnown; split; rfl; split <;> rfl) hsame (fun t ht => hlook t ht)
    have hstep := hst i oi hoi
    unfold wpOp
    simp only [hoi]
    generalize hSj : S (i + 1) = sj at *
    cases hstep with
    | skip hw hq =>
      rw [hwl, hw]
      simp only [Bool.false_eq_true, if_false]
      exact ih _ _ _ hcount (hnext undef w1 rfl (hq _ _ hI.world hcomes))
    | val v hw h =>
      rw [hwl, hw]
      simp only [if_true]
      exact .inl (h _ a1 w1 hI.world hcomes hlook _ _ (fun w' hu => ih _ _ _ hcount (hnext v w' rfl hu)))
end

/-! ### how far the chain is -/
/-- so many of the chain have been: what the world is like -/
def CLp (C : Nat → World → Prop) (E : List Nat) (L : Nat → Bool) (w : World) : Prop := C (E.filter L).length w
/-- x is y, or waits for it, some by way of others -/
def waitsGB (ops : Array Oper) : Nat → Nat → Nat → Bool
  | 0, x, y => x == y
  | f + 1, x, y => x == y || match ops[x]? with
    | some o => o.after.any fun e => Region.binds .any e && waitsGB ops f e.on y
    | none => false
theorem waitsGB_sound {ops : Array Oper} {L : Nat → Bool} (hcl : ∀ (j : Nat) (oj : Oper), ops[j]? = some oj → L j = true → ∀ e ∈ oj.after, Region.binds .any e = true → L e.on = true) :
    ∀ (f x y : Nat), waitsGB ops f x y = true → L x = true → L y = true
  | 0, x, y, h, hx => by
    have : x = y := by simpa [waitsGB] using h
    rw [← this]; exact hx
  | f + 1, x, y, h, hx => by
    unfold waitsGB at h
    rw [Bool.or_eq_true] at h
    rcases h with h | h
    · have : x = y := by simpa using h
      rw [← this]; exact hx
    · split at h
      · rename_i o ho
        obtain ⟨e, he, hb⟩ := Array.any_eq_true'.1 h
        rw [Bool.and_eq_true] at hb
        exact waitsGB_sound hcl f e.on y hb.2 (hcl x o ho hx e he hb.1)
      · cases h
/-- each of the chain waits for the one ahead of it -/
def chainB (ops : Array Oper) (E : List Nat) : Bool := decide E.Nodup && E.all (· < ops.size) && (List.range (E.length - 1)).all fun j => match ops[E.getD (j + 1) 0]? with
  | some o => o.after.any fun e => Region.binds .any e && waitsGB ops 12 e.on (E.getD j 0)
  | none => false
section
variable {P : Program} {ops : Array Oper} {C : Nat → World → Prop} {E : List Nat}
theorem chain_edge (hch : chainB ops E = true) (j : Nat) (hj : j + 1 < E.length) : ∃ o, ops[E.getD (j + 1) 0]? = some o ∧ ∃ e ∈ o.after, Region.binds .any e = true ∧ waitsGB ops 12 e.on (E.getD j 0) = true := by
  unfold chainB at hch
  simp only [Bool.and_eq_true] at hch
  have h := List.all_eq_true.1 hch.2 j (List.mem_range.2 (by omega))
  split at h
  · rename_i o ho
    obtain ⟨e, he, hb⟩ := Array.any_eq_true'.1 h
    rw [Bool.and_eq_true] at hb
    exact ⟨o, ho, e, he, hb.1, hb.2⟩
  · cases h
theorem chain_nodup (hch : chainB ops E = true) : E.Nodup := by
  unfold chainB at hch
  simp only [Bool.and_eq_true, decide_eq_true_eq] at hch
  exact hch.1.1
theorem chain_lt (hch : chainB ops E = true) : ∀ i ∈ E, i < ops.size := by
  unfold chainB at hch
  simp only [Bool.and_eq_true] at hch
  intro i hi
  simpa using List.all_eq_true.1 hch.1.2 i hi
theorem chain_down (hch : chainB ops E = true) {L : Nat → Bool} (hcl : ∀ (j : Nat) (oj : Oper), ops[j]? = some oj → L j = true → ∀ e ∈ oj.after, Region.binds .any e = true → L e.on = true) (j : Nat) :
    ∀ d, j + d < E.length → L (E.getD (j + d) 0) = true → L (E.getD j 0) = true
  | 0, _, h => h
  | d + 1, hl, h => by
    obtain ⟨o, ho, e, he, hb, heq⟩ := chain_edge hch (j + d) (by omega)
    have := waitsGB_sound hcl 12 _ _ heq (hcl _ o ho h e he hb)
    exact chain_down hch hcl j d (by omega) this
theorem filter_upd_not {L : Nat → Bool} {k : Nat} (hk : E.contains k = false) : E.filter (updL L k) = E.filter L := by
  apply List.filter_congr
  intro x hx
  unfold updL
  rw [if_neg]
  rintro rfl
  have : E.contains x = true := by simpa using hx
  rw [hk] at this
  cases this
theorem getD_of {j k : Nat} (h : E[j]? = some k) : E.getD j 0 = k := by rw [List.getD_eq_getElem?_getD, h]; rfl
theorem chain_phase (hch : chainB ops E = true) {L : Nat → Bool} {j k : Nat} {o : Oper} (hj : E[j]? = some k) (ho : ops[k]? = some o) (hc : Comes ops .any k o L) :
    (E.filter L).length = j ∧ (E.filter (updL L k)).length = j + 1 := by
  have hjl := (List.getElem?_eq_some_iff.1 hj).1
  have hk := getD_of hj
  have hbef : ∀ i, i < j → L (E.getD i 0) = true := by
    intro i hi
    obtain ⟨o', ho', e, he, hb, heq⟩ := chain_edge hch (j - 1) (by omega)
    rw [show j - 1 + 1 = j by omega, hk, ho] at ho'
    cases ho'
    have h1 := waitsGB_sound hc.closed 12 _ _ heq (hc.ready e he hb)
    have h2 := chain_down hch hc.closed i (j - 1 - i) (by omega)
    rw [show i + (j - 1 - i) = j - 1 by omega] at h2
    exact h2 h1
  have haft : ∀ i, j ≤ i → i < E.length → L (E.getD i 0) = false := by
    intro i hi hl
    rcases hb : L (E.getD i 0) with _ | _
    · rfl
    · have h2 := chain_down hch hc.closed j (i - j) (by omega)
      rw [show j + (i - j) = i by omega] at h2
      have := h2 hb
      rw [hk, hc.not] at this
      cases this
  have hmem : ∀ (l : List Nat) (x : Nat), x ∈ l → ∃ i, i < l.length ∧ l.getD i 0 = x := by
    intro l x hx
    obtain ⟨i, hi, rfl⟩ := List.mem_iff_getElem.1 hx
    exact ⟨i, hi, by rw [List.getD_eq_getElem?_getD, List.getElem?_eq_getElem hi]; rfl⟩
  have e1 : E.filter L = E.take j := by
    conv => lhs; rw [← List.take_append_drop j E]
    rw [List.filter_append, List.filter_eq_self.2, List.filter_eq_nil_iff.2, List.append_nil]
    · intro x hx
      obtain ⟨i, hi, rfl⟩ := hmem _ x hx
      rw [List.length_drop] at hi
      have : (E.drop j).getD i 0 = E.getD (j + i) 0 := by rw [List.getD_eq_getElem?_getD, List.getD_eq_getElem?_getD, List.getElem?_drop]
      rw [this, haft (j + i) (by omega) (by omega)]
      simp
    · intro x hx
      obtain ⟨i, hi, rfl⟩ := hmem _ x hx
      rw [List.length_take] at hi
      have : (E.take j).getD i 0 = E.getD i 0 := by rw [List.getD_eq_getElem?_getD, List.getD_eq_getElem?_getD, List.getElem?_take_of_lt (by omega)]
      rw [this]
      exact hbef i (by omega)
  refine ⟨by rw [e1, List.length_take]; omega, ?_⟩
  have e2 : E.filter (updL L k) = E.take (j + 1) := by
    conv => lhs; rw [← List.take_append_drop (j + 1) E]
    rw [List.filter_append, List.filter_eq_self.2, List.filter_eq_nil_iff.2, List.append_nil]
    · intro x hx
      obtain ⟨i, hi, rfl⟩ := hmem _ x hx
      rw [List.length_drop] at hi
      have : (E.drop (j + 1)).getD i 0 = E.getD (j + 1 + i) 0 := by rw [List.getD_eq_getElem?_getD, List.getD_eq_getElem?_getD, List.getElem?_drop]
      rw [this]
      unfold updL
      rw [if_neg, haft (j + 1 + i) (by omega) (by omega)]
      · simp
      · intro e
        have hn := chain_nodup hch
        rw [List.getD_eq_getElem?_getD, List.getElem?_eq_getElem (by omega)] at e
        have h1 : E[j + 1 + i]? = E[j]? := by rw [hj, List.getElem?_eq_getElem (by omega)]; simpa using e
        have := (List.getElem?_inj (by omega) hn).1 h1
        omega
    · intro x hx
      obtain ⟨i, hi, rfl⟩ := hmem _ x hx
      rw [List.length_take] at hi
      have : (E.take (j + 1)).getD i 0 = E.getD i 0 := by rw [List.getD_eq_getElem?_getD, List.getD_eq_getElem?_getD, List.getElem?_take_of_lt (by omega)]
      rw [this]
      unfold updL
      by_cases hij : i = j
      · rw [hij, hk, if_pos rfl]
      · split
        · rfl
        · exact hbef i (by omega)
  rw [e2, List.length_take]
  omega

/-! ### the walk -/
def wpGA (P : Program) (ops : Array Oper) (C : Nat → World → Prop) (E : List Nat) (Q : Act → World → Prop) : Nat → List Oper → Act → Prop
  | _, [], a => ∀ w, C E.length w → Q a w
  | k, o :: rest, a => ∃ a', StepG P ops .any (CLp C E) k o a a' ∧ wpGA P ops C E Q (k + 1) rest a'
theorem wpGA_path {Q : Act → World → Prop} : ∀ (l : List Oper) (k : Nat) (a : Act), wpGA P ops C E Q k l a →
    ∃ S : Nat → Act, S 0 = a ∧ (∀ i o, l[i]? = some o → StepG P ops .any (CLp C E) (k + i) o (S i) (S (i + 1))) ∧ ∀ w, C E.length w → Q (S l.length) w
  | [], k, a, h => ⟨fun _ => a, rfl, fun i o hi => by simp at hi, h⟩
  | o :: rest, k, a, ⟨a', h1, h2⟩ => by
    obtain ⟨S, g0, g1, g2⟩ := wpGA_path rest (k + 1) a' h2
    refine ⟨fun i => match i with | 0 => a | i + 1 => S i, rfl, fun i o' hi => ?_, fun w hw => g2 w hw⟩
    cases i with
    | zero =>
      obtain rfl : o = o' := by simpa using hi
      show StepG P ops .any (CLp C E) (k + 0) o a (S 0)
      rw [g0]; exact h1
    | succ i =>
      have := g1 i o' (by simpa using hi)
      rw [show k + (i + 1) = k + 1 + i by omega]
      exact this
/-- THE REGION -/
theorem wp_region_G {id : Nat} {Q : Exit → Act → World → Prop} {a : Act} {w : World} {l : List Oper} (hm : P.follows .mixedOrders = true) (hB : Region.lexB .any l.toArray = true) (hD : dstsB l a.tmps.size = true) (hch : chainB l.toArray E = true)
    (hC : C 0 { w with drawn := w.drawn + 1 }) (h : wpGA P l.toArray C E (fun a' w' => Q .normal a' w') 0 l a) : (Code.region id l.toArray true).wp P Q a w := by
  obtain ⟨S, hS0, hst, hfin⟩ := wpGA_path l 0 a h
  have hB' : Region.lexFrom .any l.toArray l.toArray.size 0 (Array.replicate l.toArray.size false) = true := by
    simp only [Region.lexB, Bool.and_eq_true] at hB; exact hB.2
  have hf : ∀ j, (Array.replicate l.toArray.size false).getD j false = true → False := by
    intro j hl
    by_cases hi : j < l.length <;> simp [hi] at hl
  refine wp_region_any hm ?_
  refine wpAny_G (P := P) (ops := l.toArray) (CL := CLp C E) (md := .any) (a0 := a) (S := S) hS0 (fun k o hk => by have := hst k o (by simpa using hk); rw [Nat.zero_add] at this; exact this)
    (fun k o d hk hd => dsts_lt hD (k := k) (by simpa using hk) hd) (fun j k x y d hj hk hx hy => dsts_one hD (j := j) (k := k) (by simpa using hj) (by simpa using hk) hx hy)
    (fun i oi hi => lexFrom_free _ 0 _ hB' (by simp) (fun i => ?_) (by simp) i oi (Nat.zero_le _) hi) (fun a1 w1 L hcl hall ha => ?_) _ _ _ _ ⟨_, rfl, ?_⟩ ⟨?_, rfl, rfl, by simp, fun j oj hj hl => (hf j hl).elim, fun j oj d hj hl => (hf j hl).elim, fun t _ => rfl⟩
  · by_cases hi : i < l.length
    · simp [hi]
    · simp [hi]; omega
  · have e : E.filter L = E := List.filter_eq_self.2 (fun x hx => hall x (chain_lt hch x hx))
    unfold CLp at hcl
    rw [e] at hcl
    have := hfin w1 hcl
    rw [ha]
    simpa using this
  · rw [count_none]; simp
  · unfold CLp
    have e : E.filter (fun j => (Array.replicate l.toArray.size false).getD j false) = [] := List.filter_eq_nil_iff.2 (fun x _ h => hf x h)
    rw [e]
    exact hC

variable {Q : Act → World → Prop} {o : Oper} {rest : List Oper} {k : Nat} {fs : List Value} {ds : List Deferred}
/-- the walk over a list -/
def wpG (P : Program) (ops : Array Oper) (C : Nat → World → Prop) (E : List Nat) (Q : Act → World → Prop) (ds : List Deferred) (k : Nat) (l : List Oper) (fs : List Value) : Prop := wpGA P ops C E Q k l (mkA fs ds)
theorem wp_chain_list {id : Nat} {Q : Exit → Act → World → Prop} {w : World} {l : List Oper} {fs : List Value} {ds : List Deferred} (E : List Nat) (C : Nat → World → Prop) (hm : P.follows .mixedOrders = true) (hB : Region.lexB .any l.toArray = true) (hD : dstsB l fs.length = true) (hch : chainB l.toArray E = true)
    (hC : C 0 { w with drawn := w.drawn + 1 }) (h : wpG P l.toArray C E (fun a' w' => Q .normal a' w') ds 0 l fs) : (Code.region id l.toArray true).wp P Q ⟨fs.toArray, ds⟩ w :=
  wp_region_G hm hB (by simpa using hD) hch hC h
theorem wpG_run (v : Value) (hE : E.contains k = false) (hs : notSelect o = true) (hw : wantedL ops fs o = true) (hrun : ∀ j w, C j w → (execOp (ev fs) o).run P w = .ok (.value v) w) (c : wpG P ops C E Q ds (k + 1) rest (setL fs o.dst v)) : wpG P ops C E Q ds k (o :: rest) fs :=
  ⟨_, .val v (wantedL_eq.trans hw) (fun L a1 w hC _ ht K Q' hK => by
    have e : execOp a1.eval o = execOp (mkA fs ds).eval o := execOp_congr o (fun cs b h => by simp [notSelect, h] at hs) fun x hx => eval_looks ht x hx
    unfold Oper.wp
    rw [e, mkA_evalF, hrun _ w hC]
    exact hK _ (by unfold CLp at *; rw [filter_upd_not hE]; exact hC)), by rw [mkA_put]; exact c⟩
theorem wpG_run1 {x : Operand} (vx v : Value) (hE : E.contains k = false) (hx : ev fs x = vx) (hs : notSelect o = true) (hw : wantedL ops fs o = true) (hrun : ∀ j w (ρ : Operand → Value), C j w → ρ x = vx → (∀ c, ρ (.const c) = c) → (execOp ρ o).run P w = .ok (.value v) w) (c : wpG P ops C E Q ds (k + 1) rest (setL fs o.dst v)) : wpG P ops C E Q ds k (o :: rest) fs :=
  wpG_run v hE hs hw (fun j w hC => hrun j w _ hC hx fun _ => rfl) c
theorem wpG_run2 {x y : Operand} (vx vy v : Value) (hE : E.contains k = false) (hx : ev fs x = vx) (hy : ev fs y = vy) (hs : notSelect o = true) (hw : wantedL ops fs o = true) (hrun : ∀ j w (ρ : Operand → Value), C j w → ρ x = vx → ρ y = vy → (∀ c, ρ (.const c) = c) → (execOp ρ o).run P w = .ok (.value v) w) (c : wpG P ops C E Q ds (k + 1) rest (setL fs o.dst v)) : wpG P ops C E Q ds k (o :: rest) fs :=
  wpG_run v hE hs hw (fun j w hC => hrun j w _ hC hx hy fun _ => rfl) c
theorem wpG_move {x : Operand} (v : Value) (ho : o.op = .move x) (hE : E.contains k = false) (hv : ev fs x = v) (hw : wantedL ops fs o = true) (c : wpG P ops C E Q ds (k + 1) rest (setL fs o.dst v)) : wpG P ops C E Q ds k (o :: rest) fs :=
  wpG_run v hE (by simp [notSelect, ho]) hw (fun j w _ => by simp only [execOp, ho, hv]; rfl) c
/-- a call of the chain, the j-th of it -/
theorem wpG_fn (j : Nat) (v : Value) {f : FuncId} {xs : List Operand} {ts : Array TypeId} (args : List Value) (hch : chainB ops E = true) (hk : ops[k]? = some o) (hj : E[j]? = some k) (ho : o.op = .call { callee := .value (.func f), args := xs.toArray, argTypes := ts }) (ha : xs.map (ev fs) = args) (hw : wantedL ops fs o = true)
    (hfn : ∀ (args : Array Value) w, (callFunc f args).run P w = .ok (.enter f args) w) (hc : ∀ w, C j w → Calls P f args.toArray w fun e w' => e = .returned v ∧ C (j + 1) w') (c : wpG P ops C E Q ds (k + 1) rest (setL fs o.dst v)) : wpG P ops C E Q ds k (o :: rest) fs :=
  ⟨_, .val v (wantedL_eq.trans hw) (fun L a1 w hC hcm ht K Q' hK => by
    have e : execOp a1.eval o = execOp (mkA fs ds).eval o := execOp_congr o (fun cs b h => by rw [ho] at h; cases h) fun x hx => eval_looks ht x hx
    obtain ⟨p1, p2⟩ := chain_phase hch hj hk hcm
    unfold CLp at hC
    rw [p1] at hC
    unfold Oper.wp
    rw [e, mkA_evalF, enter_of ho _ rfl hfn, ha]
    refine (hc w hC).mono fun e w' ⟨he, hb⟩ => ?_
    subst he
    exact hK _ (by unfold CLp; rw [p2]; exact hb)), by rw [mkA_put]; exact c⟩
theorem wpG_end (h : ∀ w, C E.length w → Q ⟨fs.toArray, ds⟩ w) : wpG P ops C E Q ds k [] fs := h
end
end Go.Own

end
section
namespace Go.Own
open Go.RowKit
section
variable {P : Program} {ops : Array Oper} {E : List Nat} {C : Nat → World → Prop} {Q : Act → World → Prop} {ds : List Deferred} {k : Nat} {o : Oper} {rest : List Oper} {fs : List Value}
/-- the m-th of the chain waits for operation k -/
def aheadB (ops : Array Oper) (E : List Nat) (k m : Nat) : Bool := decide (m < E.length) && waitsGB ops 30 (E.getD m 0) k
theorem chain_most (hch : chainB ops E = true) {L : Nat → Bool} {m k : Nat} {o : Oper} (hb : aheadB ops E k m = true) (hc : Comes ops .any k o L) : (E.filter L).length ≤ m := by
  unfold aheadB at hb
  simp only [Bool.and_eq_true, decide_eq_true_eq] at hb
  obtain ⟨hm, hb⟩ := hb
  have hno : ∀ i, m ≤ i → i < E.length → L (E.getD i 0) = false := by
    intro i hi hil
    by_cases h : L (E.getD i 0) = true
    · have h2 := chain_down hch hc.closed m (i - m) (by omega) (by rw [show m + (i - m) = i by omega]; exact h)
      have h3 := waitsGB_sound hc.closed 30 _ _ hb h2
      rw [hc.not] at h3
      cases h3
    · simpa using h
  have e2 : E.filter L = (E.take m).filter L ++ (E.drop m).filter L := by
    conv => lhs; rw [← List.take_append_drop m E]
    rw [List.filter_append]
  have e1 : (E.drop m).filter L = [] := by
    apply List.filter_eq_nil_iff.2
    intro x hx
    obtain ⟨i, hi, rfl⟩ := List.mem_iff_getElem.1 hx
    rw [List.length_drop] at hi
    have := hno (m + i) (by omega) (by omega)
    rw [List.getD_eq_getElem?_getD, List.getElem?_eq_getElem (by omega)] at this
    rw [List.getElem_drop]
    simpa using this
  rw [e2, e1, List.append_nil]
  exact Nat.le_trans (List.length_filter_le _ _) (by rw [List.length_take]; omega)
/-- a read ahead of the m-th of the chain -/
theorem wpG_runU (m : Nat) (v : Value) (hch : chainB ops E = true) (hb : aheadB ops E k m = true) (hE : E.contains k = false) (hs : notSelect o = true) (hw : wantedL ops fs o = true) (hrun : ∀ j w, j ≤ m → C j w → (execOp (ev fs) o).run P w = .ok (.value v) w) (c : wpG P ops C E Q ds (k + 1) rest (setL fs o.dst v)) : wpG P ops C E Q ds k (o :: rest) fs :=
  ⟨_, .val v (wantedL_eq.trans hw) (fun L a1 w hC hcm ht K Q' hK => by
    have e : execOp a1.eval o = execOp (mkA fs ds).eval o := execOp_congr o (fun cs b h => by simp [notSelect, h] at hs) fun x hx => eval_looks ht x hx
    unfold Oper.wp
    rw [e, mkA_evalF, hrun _ w (chain_most hch hb hcm) hC]
    exact hK _ (by unfold CLp at *; rw [filter_upd_not hE]; exact hC)), by rw [mkA_put]; exact c⟩
theorem wpG_runU1 {x : Operand} (m : Nat) (vx v : Value) (hch : chainB ops E = true) (hb : aheadB ops E k m = true) (hE : E.contains k = false) (hx : ev fs x = vx) (hs : notSelect o = true) (hw : wantedL ops fs o = true) (hrun : ∀ j w (ρ : Operand → Value), j ≤ m → C j w → ρ x = vx → (∀ c, ρ (.const c) = c) → (execOp ρ o).run P w = .ok (.value v) w) (c : wpG P ops C E Q ds (k + 1) rest (setL fs o.dst v)) : wpG P ops C E Q ds k (o :: rest) fs :=
  wpG_runU m v hch hb hE hs hw (fun j w hj hC => hrun j w _ hj hC hx fun _ => rfl) c
/-- what an operation leaves in its slot -/
def leaves (v : Value) (n : Next) : Prop := n = .value v ∨ (n = .skip ∧ v = undef)
/-- operation number j of the chain -/
theorem wpG_op (j : Nat) (v : Value) (n : Next) (hn : leaves v n) (hch : chainB ops E = true) (hk : ops[k]? = some o) (hj : E[j]? = some k) (hs : notSelect o = true) (hw : wantedL ops fs o = true)
    (hrun : ∀ w, C j w → ∃ w', (execOp (ev fs) o).run P w = .ok n w' ∧ C (j + 1) w') (c : wpG P ops C E Q ds (k + 1) rest (setL fs o.dst v)) : wpG P ops C E Q ds k (o :: rest) fs :=
  ⟨_, .val v (wantedL_eq.trans hw) (fun L a1 w hC hcm ht K Q' hK => by
    have e : execOp a1.eval o = execOp (mkA fs ds).eval o := execOp_congr o (fun cs b h => by simp [notSelect, h] at hs) fun x hx => eval_looks ht x hx
    obtain ⟨p1, p2⟩ := chain_phase hch hj hk hcm
    unfold CLp at hC
    rw [p1] at hC
    obtain ⟨w', hr, hC'⟩ := hrun w hC
    unfold Oper.wp
    rw [e, mkA_evalF, hr]
    have hfin := hK w' (by unfold CLp; rw [p2]; exact hC')
    rcases hn with rfl | ⟨rfl, rfl⟩
    · exact hfin
    · exact hfin), by rw [mkA_put]; exact c⟩
end
end Go.Own

end
section
namespace Go.Own
open Go.RowKit
/-- a slice literal of one element of many cells, out of the same for cells that are known to be there -/
theorem run_slot_one {P : Program} {t e : TypeId} {c : Nat} (hu : P.underlying t = some (.slice e)) (hslot : ∀ f : Nat → Value, P.builtSlice e 1 [(0, .agg ((List.range c).map f).toArray)] = some ((List.range c).map f).toArray) (cs : List Value) (hl : cs.length = c) (w : World) :
    (Instr.buildSlice t 1 #[(0, .agg cs.toArray)]).run P w = .ok (.slice (some ⟨w.heap.size, 0, none⟩) 1 1) (w.alloc (.cells cs.toArray e)) := by
  have hrm : (List.range c).map (fun i => cs.getD i undef) = cs := by
    apply List.ext_getElem
    · simp [hl]
    · intro i h1 h2
      simp [List.getD, h2]
  have h : P.builtSlice e 1 [(0, .agg cs.toArray)] = some cs.toArray := by
    have h := hslot (fun i => cs.getD i undef)
    rw [hrm] at h
    exact h
  unfold Program.builtSlice at h
  cases hie : P.info? e with
  | none => simp [hie] at h
  | some ie =>
    simp only [hie] at h
    cases hz : ie.zero with
    | none => simp [hz] at h
    | some z =>
      simp only [hz] at h
      by_cases hc : 1 * ie.size > 2 ^ 24 ∨ 1 * ie.size = 0
      · simp only [Nat.one_mul] at hc
        simp at h
        omega
      · rw [if_neg hc] at h
        have h1 : ¬ (1 * ie.size > 2 ^ 24) := fun h' => hc (Or.inl h')
        have h2 : ¬ (1 * ie.size = 0) := fun h' => hc (Or.inr h')
        simp only [Nat.one_mul] at h1 h2 h
        simp [Instr.buildSlice, run_underlying hu, sizeOf, typeInfo, zeroValue, hie, hz, newRow, h1, h2, h]
/-- .. in a walk -/
theorem wpList_slot_one {P : Program} {ops : Array Oper} {rest : List Oper} {o : Oper} {a : Act} {w : World} {Q : Exit → Act → World → Prop} (hgd : o.guard = none) (t : TypeId) (x : Operand) (ho : o.op = .buildSlice t 1 #[(0, x)]) (cs : List Value) (e : TypeId) (hx : a.eval x = .agg cs.toArray)
    (hrun : (Instr.buildSlice t 1 #[(0, .agg cs.toArray)]).run P w = .ok (.slice (some ⟨w.heap.size, 0, none⟩) 1 1) (w.alloc (.cells cs.toArray e)))
    (h : wpList P ops Q rest (a.put o.dst (.slice (some ⟨w.heap.size, 0, none⟩) 1 1)) (w.alloc (.cells cs.toArray e))) : wpList P ops Q (o :: rest) a w := by
  refine wpList_plain hgd fun K hK => ?_
  unfold Oper.wp
  simp [execOp, ho, hx, hrun, Result.andThen]
  exact hK _ _ h
end Go.Own

end
section
namespace Go.Proofs.Ytameigmoabimiaa
open Go.RowKit Go.Own
namespace Hot
open Go.GhoM Go.HotM Byt Gho
def itC (x : It) : List Value := [aV x.addr, strV x.b]
def itZ : It := ⟨0, []⟩
theorem itC_one (x : It) : ∀ u ∈ itC x, u.oneCell' = true := by
  intro u hu
  simp only [itC, List.mem_cons, List.not_mem_nil, or_false] at hu
  rcases hu with rfl | rfl <;> rfl
theorem info_it (cs : List Value) (h : cs.length = 2) : (Try.prog.info? 69).map (·.size) = some cs.length := by
  have h0 : (Try.prog.info? 69).map (fun i => i.size) = some 2 := by kernel_rfl
  rw [h]; exact h0
theorem info_itA (cs : List Value) (h : cs.length = 2) : (Try.prog.info? 69).map (·.size) = some cs.toArray.size := by rw [List.size_toArray]; exact info_it cs h
theorem zero_it : (Try.prog.info? 69).bind (·.zero) = some (.agg (itC itZ).toArray) := by kernel_rfl
theorem built_it : Try.prog.built 69 [] = some (itC itZ).toArray := by kernel_rfl
theorem boxy_it : Boxy Try.prog 69 2 := boxy_of (itC itZ).toArray zero_it (by kernel_rfl) (by kernel_rfl)
theorem many_it : Many Try.prog 60 69 2 24 := ⟨Try.underlying60, by kernel_rfl, by decide⟩
theorem load_it (cs : List Value) (hl : cs.length = 2) {o : Oper} {x : Tmp} (ho : o.op = .load 69 (.tmp x)) {b k : Nat} (ρ : Operand → Value) {w : World} (hr : w.rangeAt b k cs) (h0 : ρ (.tmp x) = .pointer (some ⟨b, k, none⟩)) : (execOp ρ o).run Try.prog w = .ok (.value (.agg cs.toArray)) w := by
  have := run_loadAt_mid (P := Try.prog) w b k 69 cs _ hr Try.underlying69 rfl (info_it cs hl)
  unfold execOp
  simp only [ho, h0, Sem.run_bind, this, Result.andThen_ok, Sem.run_pure]
theorem slot_it (cs : List Value) (hl : cs.length = 2) (w : World) : (Instr.buildSlice 60 1 #[(0, .agg cs.toArray)]).run Try.prog w = .ok (.slice (some ⟨w.heap.size, 0, none⟩) 1 1) (w.alloc (.cells cs.toArray 69)) :=
  run_slot_one (c := 2) Try.underlying60 (fun f => by kernel_rfl) cs hl w
theorem size_it (w : World) : (sizeOf 69).run Try.prog w = .ok 2 w := by kernel_rfl
theorem idx_it {o : Oper} {x y : Tmp} (ho : o.op = .indexAddr 60 (.tmp x) (.tmp y)) {g n c k : Nat} (hk : k < n) (ρ : Operand → Value) (w : World) (h0 : ρ (.tmp x) = .slice (some ⟨g, 0, none⟩) n c) (h1 : ρ (.tmp y) = .int .i64 (k : Int)) : (execOp ρ o).run Try.prog w = .ok (.value (.pointer (some ⟨g, k * 2, none⟩))) w := by
  have h2 : (k : Int) < (n : Int) := by omega
  have hu := Try.underlying60
  have hs := size_it
  simp [execOp, ho, h0, h1, go_sem, hs, h2, hu, add_of]
theorem cutToH (ao : Option Addr) (m cap k : Nat) (hk : k ≤ m) (hm : m ≤ cap) (hc : cap ≤ maxLen) (hno : ao = none → m = 0 ∧ cap = 0) (o : Oper) (x y : Operand) (ho : o.op = .slice 60 x none (some y) none) (ρ : Operand → Value) (w : World) (h0 : ρ x = .slice ao m cap) (h1 : ρ y = .int .i64 (k : Int)) :
    (execOp ρ o).run Try.prog w = .ok (.value (.slice ao k cap)) w := by
  unfold maxLen at hc
  have hs := size_it
  cases ao with
  | none =>
    obtain ⟨rfl, rfl⟩ := hno rfl
    obtain rfl : k = 0 := by omega
    simp [execOp, ho, h0, h1, go_sem, hs]
  | some a =>
    simp [execOp, ho, h0, h1, go_sem, hs]
    omega
theorem cutFromH (ao : Option Addr) (m cap k : Nat) (hk : k ≤ m) (hm : m ≤ cap) (hc : cap ≤ maxLen) (hno : ao = none → m = 0 ∧ cap = 0) :
    ∃ a' c', (∀ (o : Oper) (x y : Operand), o.op = .slice 60 x (some y) none none → ∀ (ρ : Operand → Value) w, ρ x = .slice ao m cap → ρ y = .int .i64 (k : Int) → (execOp ρ o).run Try.prog w = .ok (.value (.slice a' (m - k) c')) w) ∧
      (a' = none → m - k = 0 ∧ c' = 0) ∧ (∀ (w : World) (xs : List Value), xs.length = m * 2 → (∀ g, ao = some ⟨g, 0, none⟩ → ∀ j u, xs[j]? = some u → w.cell? ⟨g, j, none⟩ = some u) → (∀ a, ao = some a → ∃ g, a = ⟨g, 0, none⟩) → ∀ a, a' = some a → ∀ j u, (xs.drop (k * 2))[j]? = some u → w.cell? (a.add j) = some u) := by
  have hc0 := hc
  unfold maxLen at hc
  have hs := size_it
  cases ao with
  | none =>
    obtain ⟨rfl, rfl⟩ := hno rfl
    obtain rfl : k = 0 := by omega
    exact ⟨none, 0, fun o x y ho ρ w h0 h1 => by simp [execOp, ho, h0, h1, go_sem, hs], fun _ => ⟨rfl, rfl⟩, fun w xs _ _ _ a h => by cases h⟩
  | some a =>
    by_cases hck : cap = k
    · refine ⟨some a, 0, fun o x y ho ρ w h0 h1 => ?_, (fun h => by cases h), fun w xs hl _ _ a' h j u hu => ?_⟩
      · simp [execOp, ho, h0, h1, go_sem, hs]
        rw [if_pos hk, if_pos hck, hck]; simp
      · rw [List.drop_eq_nil_of_le (by omega)] at hu; simp at hu
    · refine ⟨some (a.add (k * 2)), cap - k, fun o x y ho ρ w h0 h1 => ?_, (fun h => by cases h), fun w xs hl hcl hg a' h j u hu => ?_⟩
      · simp [execOp, ho, h0, h1, go_sem, hs]
        rw [if_pos hk, if_neg hck]
      · obtain ⟨g, rfl⟩ := hg a rfl
        cases h
        rw [add_of, Nat.zero_add, add_of]
        rw [List.getElem?_drop] at hu
        exact hcl g rfl _ u hu
theorem flat_cut (l : List It) (i : Nat) : (l.take i).flatMap itC = (l.flatMap itC).take (i * 2) ∧ (l.drop i).flatMap itC = (l.flatMap itC).drop (i * 2) := by
  induction l generalizing i with
  | nil => simp
  | cons c l ih =>
    cases i with
    | zero => simp
    | succ i =>
      have hc : (itC c).length = 2 := rfl
      have h := ih i
      constructor
      · rw [List.take_succ_cons, List.flatMap_cons, List.flatMap_cons, h.1, List.take_append, hc, List.take_of_length_le (l := itC c) (by omega), show (i + 1) * 2 - 2 = i * 2 by omega]
      · rw [List.drop_succ_cons, List.flatMap_cons, h.2, List.drop_append, hc, List.drop_of_length_le (l := itC c) (by omega), show (i + 1) * 2 - 2 = i * 2 by omega, List.nil_append]
theorem flat_oneI (L : List It) : ∀ u ∈ L.flatMap itC, u.oneCell' = true := by
  intro u hu
  obtain ⟨c, _, h⟩ := List.mem_flatMap.1 hu
  exact itC_one c u h
/-- a row's cells as the source of an append -/
theorem row_srcH {B : Nat} {w0 w : World} {Ps : List Asn} (H : Own.St B w0 w Ps) (j : Nat) {ao : Option Addr} {n c : Nat} {xs : List Value} (hj : Ps[j]? = some (ARow 69 2 (.slice ao n c) n xs)) : (∀ g, ao = some ⟨g, 0, none⟩ → ∀ j u, xs[j]? = some u → w.cell? ⟨g, j, none⟩ = some u) ∧ (n ≠ 0 → ∀ a, ao = some a → ∃ g, a = ⟨g, 0, none⟩) := by
  refine ⟨fun g hg k u hu => ?_, fun h0 a ha => ?_⟩
  · have := H.rowNews j hj _ hg k u hu
    rw [add_of, Nat.zero_add] at this
    exact this
  · obtain ⟨g, hg, _⟩ := H.rowAt j hj 0 (by omega)
    rw [ha] at hg
    cases hg
    exact ⟨g, rfl⟩
abbrev RowH (v : Value) (l : List It) (n : Nat) : Asn := ARow 69 2 v n (l.flatMap itC)
def hC (v : Value) (room q : Nat) : List Value := [v, .int .i64 (room : Int), ptr q]
/-- the document's cache -/
def ARefH (p : Nat) (v : Value) (q : Nat) (vg : Value) (h : H) : Asn := AJoin [AVals p 62 (hC v h.room q), RowH v h.L h.L.length, ARefG q vg h.g]
/-- what take gives -/
def itemOf (h : H) (a : Nat) : It := if isIn h a = true then ⟨a, bytesOf h a⟩ else itZ
section
variable {B : Nat} {w0 w : World} {Ps : List Asn} {p q : Nat} {v vg : Value} {h : H}
theorem refh_open (H : Own.St B w0 w (ARefH p v q vg h :: Ps)) : Own.St B w0 w (AVals p 62 (hC v h.room q) :: RowH v h.L h.L.length :: ARefG q vg h.g :: Ps) := H.openJ
theorem refh_close (H : Own.St B w0 w (AVals p 62 (hC v h.room q) :: RowH v h.L h.L.length :: ARefG q vg h.g :: Ps)) : Own.St B w0 w (ARefH p v q vg h :: Ps) := Own.St.closeJ (Qs := [_, _, _]) H
theorem keep6 {R P1 P2 L O G : Asn} (H : Own.St B w0 w (R :: P1 :: P2 :: L :: O :: G :: Ps)) : Own.St B w0 w (L :: R :: G :: Ps) := by
  have h1 := (H.front 4 rfl).drop 1
  have h2 := (h1.front 1 rfl).drop 1
  have h3 := (h2.front 1 rfl).drop 1
  exact h3.swap2
set_option maxRecDepth 10000 in
set_option maxHeartbeats 6400000 in
theorem take_any (H : Own.St B w0 w (ARefH p v q vg h :: Ps)) (hn : h.L.length ≤ 100000) (a : Nat) : Calls Try.prog 28 #[ptr p, aV a] w fun e w' => e = .returned (.tuple #[.agg (itC (itemOf h a)).toArray, .bool (isIn h a)]) ∧ ∃ v', Own.St B w0 w' (ARefH p v' q vg (HotM.drop h a) :: Ps) := by
  have h0 := refh_open H
  obtain ⟨ao, cap, rfl⟩ := h0.rowForm 1 rfl
  obtain ⟨n, hnn⟩ : ∃ n, n = h.L.length := ⟨_, rfl⟩
  rw [← hnn] at h0 hn
  obtain ⟨hx1, hx2, hx3, hx4⟩ := h0.rowLen 1 rfl
  have hx5 : cap ≤ 9223372036854775807 := by unfold maxLen at hx3; omega
  obtain ⟨z, hz⟩ : ∃ z, z = itC itZ := ⟨_, rfl⟩
  have ZL : Hid (z.length = 2) := by show z.length = 2; rw [hz]; rfl
  have ZP : Hid ((Try.prog.info? 69).bind (·.zero) = some (.agg z.toArray)) := by rw [hz]; exact zero_it
  have ZB : Hid (Try.prog.built 69 [] = some z.toArray) := by rw [hz]; exact built_it
  have ZO : Hid (∀ u ∈ z, u.oneCell' = true) := by rw [hz]; exact itC_one _
  obtain ⟨F, hF⟩ : ∃ F, F = itC (itemOf h a) := ⟨_, rfl⟩
  obtain ⟨r, hr⟩ : ∃ r, r = isIn h a := ⟨_, rfl⟩
  rw [← hr, ← hF]
  have HR := Lib.hid hr
  have HF := Lib.hid hF
  have HZ := Lib.hid hz
  have HN := Lib.hid hnn
  have H0 := Lib.hid h0
  have HX3 := Lib.hid hx3
  have HX4 := Lib.hid hx4
  obtain ⟨room, hroom⟩ : ∃ x, x = h.room := ⟨_, rfl⟩
  rw [← hroom] at H0
  have HRM := Lib.hid hroom
  clear h0 H hnn hx3 hx4 hr hF hz hroom
  go_enter Try.func28, Try.ntmps28
  go_wp2_with (refine wpList_newZ z ZP.out rfl rfl H0.out ?_; intro b4 w1 h1; have H1 := Lib.hid h1; have c0 := (h1.cellV 1 rfl 0 rfl).1; clear h1)
  clear H0
  go_loopw [6] (fun v6 wr => ∃ i : Nat, i ≤ n ∧ v6 = .int .i64 (i : Int) ∧ wr = w1 ∧ i ≤ findI a h.L) (fun v6 _ => n - (intOf v6).toNat)
  case atStart => exact ⟨0, Nat.zero_le _, rfl, rfl, Nat.zero_le _⟩
  case round =>
    obtain ⟨i, hin, rfl, hw, hf⟩ := hrel
    subst hw
    have HFI := Lib.hid hf
    clear hf
    by_cases hi : (i : Int) < (n : Int)
    · have hin2 : i < n := by omega
      have hil : i < h.L.length := by rw [← HN.out]; exact hin2
      obtain ⟨x, hx⟩ : ∃ x, x = h.L[i] := ⟨_, rfl⟩
      have hgi : h.L[i]? = some x := by rw [hx]; exact List.getElem?_eq_getElem hil
      have hfa := flat_at itC 2 h.L (fun _ _ => rfl) i x hgi
      obtain ⟨b, hb, ⟨u, hu, hc⟩, _, _⟩ := H1.out.rowAt 2 rfl (i * 2) (by omega)
      have hu2 : u = aV x.addr := by
        have := hfa 0 (by omega)
        rw [Nat.add_zero, hu] at this
        exact Option.some.inj this
      subst hb hu2
      have RX : Hid (wr.rangeAt b (i * 2) (itC x)) := by
        intro j u hu
        have hj : j < 2 := (List.getElem?_eq_some_iff.1 hu).1
        obtain ⟨b', hb', ⟨u', hu', hc'⟩, _, _⟩ := H1.out.rowAt 2 rfl (i * 2 + j) (by omega)
        cases hb'
        rw [hfa j hj, hu] at hu'
        rw [hc', ← Option.some.inj hu']
      have HGI := Lib.hid hgi
      clear hu hgi hx hfa
      obtain ⟨y, hy⟩ : ∃ y, y = x.addr := ⟨_, rfl⟩
      rw [← hy] at hc
      have HY := Lib.hid hy
      by_cases he : y = a
      · subst he
        have hfi : findI y h.L = i := findI_eq HFI.out HGI.out HY.out.symm
        have hrt : r = true := by rw [HR.out]; unfold isIn; rw [hfi, ← HN.out]; exact decide_eq_true hin2
        have HFX : Hid (F = itC x) := by
          show F = _
          rw [HF.out]
          unfold itemOf
          rw [← HR.out, hrt, if_pos rfl, bytes_at hfi HGI.out, HY.out]
        obtain ⟨cs, hcs⟩ : ∃ cs, cs = itC x := ⟨_, rfl⟩
        have CL : Hid (cs.length = 2) := by show _ = _; rw [hcs]; rfl
        have CO : Hid (∀ u ∈ cs, u.oneCell' = true) := by rw [hcs]; exact itC_one _
        rw [← hcs] at RX HFX
        have HE : Hid ((HotM.drop h y).L = h.L.take i ++ h.L.drop (i + 1)) := by show rest y h.L = _; unfold rest; rw [hfi]
        obtain ⟨af, cf, hcut, hnf, hcell⟩ := cutFromH (some ⟨b, 0, none⟩) n cap (i + 1) (by omega) hx2 HX3.out HX4.out
        have HCUT := Lib.hid hcut
        have HCL := Lib.hid hcell
        have HNF := Lib.hid hnf
        obtain ⟨fc, hfc⟩ : ∃ fc, fc = h.L.flatMap itC := ⟨_, rfl⟩
        have FL : Hid (fc.length = n * 2) := by show _ = _; rw [hfc]; exact hx1
        have TL : Hid ((fc.take (i * 2)).length = i * 2) := by show _ = _; rw [List.length_take, FL.out]; omega
        have DL : Hid ((fc.drop ((i + 1) * 2)).length = (n - (i + 1)) * 2) := by show _ = _; rw [List.length_drop, FL.out, Nat.sub_mul]
        have FO : ∀ u ∈ fc, u.oneCell' = true := by rw [hfc]; exact flat_oneI _
        have TO : Hid (∀ u ∈ fc.take (i * 2), u.oneCell' = true) := fun u hu => FO u (List.mem_of_mem_take hu)
        have DO : Hid (∀ u ∈ fc.drop ((i + 1) * 2), u.oneCell' = true) := fun u hu => FO u (List.mem_of_mem_drop hu)
        have TC : Hid (∀ {X1 X2 X3 X4 : Asn} {Q : List Asn} (wx : World), Own.St B w0 wx (X1 :: X2 :: X3 :: X4 :: ARow 69 2 (.slice (some ⟨b, 0, none⟩) n cap) n fc :: Q) → ∀ a', some (⟨b, 0, none⟩ : Addr) = some a' → ∀ j u, (fc.take (i * 2))[j]? = some u → wx.cell? (a'.add j) = some u) := by
          intro X1 X2 X3 X4 Q wx hh a' ha j u hu
          rw [List.getElem?_take] at hu
          split at hu
          · exact hh.rowNews 4 rfl a' ha j u hu
          · cases hu
        have DC : Hid (∀ {X1 X2 X3 X4 : Asn} {Q : List Asn} (wx : World), Own.St B w0 wx (X1 :: X2 :: X3 :: X4 :: ARow 69 2 (.slice (some ⟨b, 0, none⟩) n cap) n fc :: Q) → ∀ a', af = some a' → ∀ j u, (fc.drop ((i + 1) * 2))[j]? = some u → wx.cell? (a'.add j) = some u) := by
          intro X1 X2 X3 X4 Q wx hh
          exact HCL.out wx fc FL.out (row_srcH hh 4 rfl).1 ((row_srcH hh 4 rfl).2 (by omega))
        have H1' : Hid (Own.St B w0 wr (AVals b4 69 z :: AVals p 62 (hC (.slice (some ⟨b, 0, none⟩) n cap) room q) :: ARow 69 2 (.slice (some ⟨b, 0, none⟩) n cap) n fc :: ARefG q vg h.g :: Ps)) := by rw [hfc]; exact H1
        have HFC := Lib.hid hfc
        clear hcut hcell hnf FO hcs hfc H1 hfi hy
        subst hrt
        go_wp2_with (first
          | (refine wpList_val rfl (idx_it rfl hin2 _ _ rfl rfl) ?_)
          | (refine wpList_val rfl (load_it cs CL.out rfl _ (b := b) (k := i * 2) RX.out rfl) ?_; refine wpList_box2 boxy_it rfl rfl rfl (.tmp 7) (.tmp 34) rfl rfl cs (fun _ => rfl) (fun _ => rfl) CL.out CO.out H1'.out ?_; intro b7 w5 h5; have h6 := h5.emptyRow 69 2; have H6 := Lib.hid h6; have c5 := (h6.cellV 3 rfl 0 rfl).1; have T6 := Lib.hid (TC.out _ h6); clear h5 h6)
          | (refine wpList_val rfl (cutToH (some ⟨b, 0, none⟩) n cap i (Nat.le_of_lt hin2) hx2 HX3.out HX4.out _ _ _ rfl _ _ rfl rfl) ?_)
          | (refine wpList_val rfl (HCUT.out _ _ _ rfl _ _ rfl rfl) ?_)
          | (at_builtin; refine wpList_many_append many_it rfl (.tmp 35) (.tmp 41) rfl H6.out 0 rfl rfl (some ⟨b, 0, none⟩) i cap (fc.take (i * 2)) rfl (by intro h; cases h) TL.out T6.out TO.out (by omega) (by decide) ?_; intro a7 c7 w7 h7; simp only [List.set_cons_zero, Nat.zero_add, List.nil_append] at h7 ⊢; have H7 := Lib.hid h7; have c6 := (h7.cellV 3 rfl 0 rfl).1; have D7 := Lib.hid (DC.out _ h7); clear h7)
          | (at_builtin; refine wpList_many_append many_it rfl (.tmp 43) (.tmp 50) rfl H7.out 0 rfl rfl af (n - (i + 1)) cf (fc.drop ((i + 1) * 2)) rfl HNF.out DL.out D7.out DO.out (by omega) (by decide) ?_; intro a8 c8 w8 h8; simp only [List.set_cons_zero] at h8 ⊢; obtain ⟨d1, d2⟩ := h8.cellV 3 rfl 0 rfl; have h9 := h8.storeV 3 rfl 0 (.slice a8 (i + (n - (i + 1))) c8); simp only [List.set_cons_zero, List.set_cons_succ] at h9; obtain ⟨w9, hw9⟩ : ∃ W, W = w8.setCell ⟨p, 0, none⟩ (.slice a8 (i + (n - (i + 1))) c8) := ⟨_, rfl⟩; rw [← hw9] at h9; have E9 := hw9.symm; have H9 := Lib.hid h9; clear h8 h9 hw9)
          | (refine wpList_val rfl (load_it cs CL.out rfl _ (b := b7) (k := 0) (H9.out.boxRange 1 rfl) rfl) ?_; refine wpList_fill boxy_it rfl (.tmp 4) (.tmp 56) rfl rfl H9.out 2 rfl ZL.out cs rfl rfl CL.out CO.out ?_; intro w10 h10; simp only [List.set_cons_zero, List.set_cons_succ] at h10; have HA := Lib.hid h10; clear h10))
        refine bodyPost_ret (results_cell_two rfl _ _ b4 69 _ (0, 0) _ _ rfl rfl (HA.out.rowV 2 rfl) Try.underlying69 rfl (info_itA cs CL.out)) rfl ?_
        refine ⟨by rw [HFX.out]; rfl, .slice a8 (i + (n - (i + 1))) c8, refh_close ?_⟩
        have hk := keep6 HA.out
        rw [HE.out, List.length_append, List.length_take, List.length_drop, ← HN.out, Nat.min_eq_left (Nat.le_of_lt hin2)]
        unfold RowH
        rw [List.flatMap_append, (flat_cut h.L i).1, (flat_cut h.L (i + 1)).2, ← HFC.out]
        show Own.St B w0 w10 (AVals p _ (hC _ h.room q) :: _ :: ARefG q vg h.g :: Ps)
        rw [← HRM.out]
        exact hk
      · have heb : ((y : Int) == (a : Int)) = false := by simp; omega
        have hne : ¬ (y : Int) = (a : Int) := by omega
        go_wp2_with (refine wpList_val rfl (idx_it rfl hin2 _ _ rfl rfl) ?_)
        go_roundw
        case rel => exact ⟨i + 1, by omega, by go_num, trivial, findI_next HFI.out HGI.out (by rw [← HY.out]; exact he)⟩
        case measure => simp [intOf]; omega
    · have hrf : r = false := by
        rw [HR.out]
        unfold isIn
        have h1 := HFI.out
        have h3 := HN.out
        exact decide_eq_false (by omega)
      have HFX : Hid (F = z) := by
        show F = _
        rw [HF.out, HZ.out]
        unfold itemOf
        rw [← HR.out, hrf, if_neg (by simp)]
      subst hrf
      go_wp2_with (first
        | (refine Own.wpList_built rfl 69 #[] rfl z.toArray ?_ ?_; · (simp only [List.map_toArray, List.map_nil, List.toList_toArray]; exact ZB.out))
        | (refine wpList_fill boxy_it rfl (.tmp 4) (.tmp 57) rfl rfl H1.out 0 rfl ZL.out z rfl rfl ZL.out ZO.out ?_; intro w10 h10; simp only [List.set_cons_zero] at h10; have HA := Lib.hid h10; clear h10))
      refine bodyPost_ret (results_cell_two rfl _ _ b4 69 _ (0, 0) _ _ rfl rfl (HA.out.rowV 0 rfl) Try.underlying69 rfl (info_itA z ZL.out)) rfl ?_
      refine ⟨by rw [HFX.out]; rfl, .slice ao n cap, refh_close ?_⟩
      rw [drop_none HR.out.symm, ← HRM.out, ← HN.out]
      exact HA.out.drop 1
end
end Hot
end Go.Proofs.Ytameigmoabimiaa

end
section
namespace Go.Proofs.Ytameigmoabimiaa
open Go.RowKit Go.Own
namespace Hot
open Go.GhoM Go.HotM Byt Gho
section
variable {B : Nat} {w0 w : World} {Ps : List Asn} {p q : Nat} {v vg : Value} {h : H}
set_option maxHeartbeats 3200000 in
theorem front_any (H : Own.St B w0 w (ARefH p v q vg h :: Ps)) (hn : h.L.length ≤ 100000) (hrm : h.room ≤ 100000) (x : It) : Calls Try.prog 30 #[ptr p, .agg (itC x).toArray] w fun e w' => e = .returned (.tuple #[]) ∧ ∃ v', Own.St B w0 w' (ARefH p v' q vg ⟨frontL h.room x h.L, h.room, h.g⟩ :: Ps) := by
  have h0 := refh_open H
  obtain ⟨ao, cap, rfl⟩ := h0.rowForm 1 rfl
  obtain ⟨n, hnn⟩ : ∃ n, n = h.L.length := ⟨_, rfl⟩
  obtain ⟨room, hroom⟩ : ∃ n, n = h.room := ⟨_, rfl⟩
  obtain ⟨fc, hfc⟩ : ∃ fc, fc = h.L.flatMap itC := ⟨_, rfl⟩
  obtain ⟨cs, hcs⟩ : ∃ cs, cs = itC x := ⟨_, rfl⟩
  have CL : Hid (cs.length = 2) := by show _ = _; rw [hcs]; rfl
  have CO : Hid (∀ u ∈ cs, u.oneCell' = true) := by rw [hcs]; exact itC_one _
  rw [← hnn, ← hroom] at h0
  rw [← hnn] at hn
  rw [← hroom] at hrm
  have h1 : Own.St B w0 w (AVals p 62 (hC (.slice ao n cap) room q) :: ARow 69 2 (.slice ao n cap) n fc :: ARefG q vg h.g :: Ps) := by rw [hfc]; exact h0
  obtain ⟨hx1, hx2, hx3, hx4⟩ := h1.rowLen 1 rfl
  have h2 := h1.boxV 69 cs
  obtain ⟨b3, hb3⟩ : ∃ b, b = w.heap.size := ⟨_, rfl⟩
  obtain ⟨W1, hW1⟩ : ∃ W, W = w.alloc (.cells cs.toArray 69) := ⟨_, rfl⟩
  rw [← hb3, ← hW1] at h2
  have E1 := hW1.symm
  have EB := hb3.symm
  have RB : Hid (W1.rangeAt b3 0 cs) := h2.boxRange 0 rfl
  have h3 : Own.St B w0 (W1.alloc (.cells cs.toArray 69)) (ARow 69 2 (.slice (some ⟨W1.heap.size, 0, none⟩) 1 1) 1 cs :: AVals b3 69 cs :: AVals p 62 (hC (.slice ao n cap) room q) :: ARow 69 2 (.slice ao n cap) n fc :: ARefG q vg h.g :: Ps) := by
    have := h2.new (S' := fun k => k = W1.heap.size) (ARow 69 2 (.slice (some ⟨W1.heap.size, 0, none⟩) 1 1) 1 cs.toArray.toList) (Row.made W1 cs.toArray 69 2 1 (by unfold maxLen; decide) (by rw [List.size_toArray, CL.out])) (((Step.refl (fun _ => False) W1).alloc (.cells cs.toArray 69)).to (fun k hk => .inr (Nat.le_of_eq hk.symm)))
    simpa using this
  have H3 := Lib.hid h3
  have c0 := (h3.cellV 2 rfl 0 rfl).1
  have c1 := (h3.cellV 2 rfl 1 rfl).1
  have FL : Hid (fc.length = n * 2) := hx1
  have FO : Hid (∀ u ∈ fc, u.oneCell' = true) := by rw [hfc]; exact flat_oneI _
  have SC : Hid (∀ a, ao = some a → ∀ j u, fc[j]? = some u → (W1.alloc (.cells cs.toArray 69)).cell? (a.add j) = some u) := h3.rowNews 3 rfl
  obtain ⟨k, hk⟩ : ∃ k, k = min (1 + n) room := ⟨_, rfl⟩
  have hmin : min (((1 + n : Nat) : Nat) : Int) (room : Int) = (k : Int) := by omega
  have hmin2 : min (1 + (n : Int)) (room : Int) = (k : Int) := by omega
  have hk1 : k ≤ 1 + n := by omega
  have HNO := Lib.hid hx4
  have HK := Lib.hid hk
  have HN := Lib.hid hnn
  have HRM := Lib.hid hroom
  have HFC := Lib.hid hfc
  have HCS := Lib.hid hcs
  show Calls Try.prog _ #[_, .agg (itC x).toArray] w _
  rw [← hcs]
  clear h0 h1 h2 h3 H hb3 hW1 hcs hfc hx1 hx3 hx4 hk hnn hroom
  go_enter Try.func30, Try.ntmps30
  go_wp2_with (first
    | (refine wpList_val rfl (load_it cs CL.out rfl _ (b := b3) (k := 0) RB.out rfl) ?_)
    | (refine wpList_slot_one rfl 60 (.tmp 5) rfl cs 69 rfl (slot_it cs CL.out _) ?_)
    | (at_builtin; refine wpList_many_append many_it rfl (.tmp 7) (.tmp 11) rfl H3.out 0 rfl rfl ao n cap fc rfl HNO.out FL.out SC.out FO.out (by omega) (by decide) ?_; intro a2 c2 w2 h2; simp only [List.set_cons_zero] at h2 ⊢; have H2 := Lib.hid h2; have c3 := h2.cellV 2 rfl 0 rfl; have c4 := (h2.cellV 2 rfl 1 rfl).1; have q := h2.rowLen 0 rfl; have Q := Lib.hid q; clear h2 q; obtain ⟨c3, c5⟩ := c3)
    | (refine wpList_val rfl (cutToH a2 (1 + n) c2 k hk1 Q.out.2.1 Q.out.2.2.1 Q.out.2.2.2 _ _ _ rfl _ _ rfl rfl) ?_))
  go_end0
  refine ⟨rfl, .slice a2 k c2, refh_close ?_⟩
  have hq1 := H2.out.storeV 2 rfl 0 (.slice a2 k c2)
  simp only [List.set_cons_zero, List.set_cons_succ] at hq1
  have h2 := hq1.rowCut 0 rfl k hk1
  simp only [List.set_cons_zero] at h2
  have h3 := (h2.front 1 rfl).drop 1
  simp only [List.eraseIdx_cons_succ, List.eraseIdx_cons_zero, List.drop_succ_cons, List.drop_zero] at h3
  have h4 := (h3.front 2 rfl).drop 1
  simp only [List.eraseIdx_cons_succ, List.eraseIdx_cons_zero, List.drop_succ_cons, List.drop_zero] at h4
  have h5 := h4.swap2
  have e1 : frontL room x h.L = (x :: h.L).take k := by
    unfold frontL
    have hl : (x :: h.L).length = 1 + n := by rw [List.length_cons, ← HN.out, Nat.add_comm]
    rw [HK.out]
    rcases Nat.le_total (1 + n) room with hq | hq
    · rw [Nat.min_eq_left hq, List.take_of_length_le (by omega), List.take_of_length_le (by omega)]
    · rw [Nat.min_eq_right hq]
  rw [← HRM.out]
  show Own.St B w0 _ (_ :: RowH _ (frontL room x h.L) (frontL room x h.L).length :: _)
  rw [e1, List.length_take, List.length_cons, ← HN.out, Nat.min_eq_left (by omega)]
  have e2 : ((x :: h.L).take k).flatMap itC = (cs ++ fc).take (k * 2) := by rw [(flat_cut _ k).1, List.flatMap_cons, HCS.out, HFC.out]
  unfold RowH
  rw [e2]
  exact h5
set_option maxHeartbeats 3200000 in
theorem getR_any (H : Own.St B w0 w (ARefH p v q vg h :: Ps)) (ok : HotM.Ok h) (a : Nat) : Calls Try.prog 15 #[ptr p, aV a] w fun e w' => e = .returned (.tuple #[strV (bytesOf h a), .bool (isIn h a)]) ∧ ∃ v', Own.St B w0 w' (ARefH p v' q vg (HotM.get h a) :: Ps) := by
  have hn4 : h.L.length ≤ 4096 := Nat.le_trans ok.len ok.room
  have C := Lib.hid (take_any H (by omega) a)
  obtain ⟨r, hr⟩ : ∃ r, r = isIn h a := ⟨_, rfl⟩
  obtain ⟨cs, hcs⟩ : ∃ cs, cs = itC (itemOf h a) := ⟨_, rfl⟩
  have CL : Hid (cs.length = 2) := by show _ = _; rw [hcs]; rfl
  have CO : Hid (∀ u ∈ cs, u.oneCell' = true) := by rw [hcs]; exact itC_one _
  have CB : Hid (cs[1]? = some (strV (bytesOf h a))) := by
    show _ = _
    rw [hcs]
    unfold itemOf
    split
    · rfl
    · rw [bytes_none (by simpa using ‹¬ isIn h a = true›)]
      rfl
  rw [← hr, ← hcs] at C
  rw [← hr]
  have HR := Lib.hid hr
  have HCS := Lib.hid hcs
  have OK := Lib.hid ok
  have HN4 := Lib.hid hn4
  obtain ⟨bs, hbs⟩ : ∃ b, b = bytesOf h a := ⟨_, rfl⟩
  rw [← hbs] at CB ⊢
  have HBS := Lib.hid hbs
  clear H hr hcs ok hn4 hbs
  go_enter Try.func15, Try.ntmps15
  go_wp2_with (fail)
  refine C.out.mono ?_
  rintro e w1 ⟨rfl, v1, h1⟩
  have H1 := Lib.hid h1
  clear C h1
  cases r
  · go_wp2_with (refine wpList_box2 boxy_it rfl rfl rfl (.tmp 6) (.tmp 12) rfl rfl cs (fun _ => rfl) (fun _ => rfl) CL.out CO.out H1.out ?_; intro b6 w5 h5; have H5 := Lib.hid h5; have d1 := (h5.cellV 0 rfl 1 CB.out).1; clear h5)
    go_ret2
    refine ⟨rfl, v1, ?_⟩
    have h := H5.out.drop 1
    rw [drop_none HR.out.symm] at h
    rw [get_not HR.out.symm]
    exact h
  · have hc2 : cs = itC ⟨a, bs⟩ := by
      rw [HCS.out]
      unfold itemOf
      rw [if_pos HR.out.symm, HBS.out]
    have hl : (HotM.drop h a).L.length ≤ 4096 := by
      have := (ok_drop OK.out a).len
      have := OK.out.room
      show _ ≤ _
      exact Nat.le_trans ‹(HotM.drop h a).L.length ≤ (HotM.drop h a).room› this
    have HL := Lib.hid hl
    have HC2 := Lib.hid hc2
    clear hl hc2
    go_wp2_with (first
      | (refine wpList_box2 boxy_it rfl rfl rfl (.tmp 6) (.tmp 12) rfl rfl cs (fun _ => rfl) (fun _ => rfl) CL.out CO.out H1.out ?_; intro b6 w5 h5; have H5 := Lib.hid h5.swap2; have RB := Lib.hid (h5.boxRange 0 rfl); clear h5)
      | (refine wpList_val rfl (load_it cs CL.out rfl _ (b := b6) (k := 0) RB.out rfl) ?_))
    rw [HC2.out]
    refine (front_any H5.out (Nat.le_trans HL.out (by decide)) (Nat.le_trans OK.out.room (by decide)) ⟨a, bs⟩).mono ?_
    rintro e w6 ⟨rfl, v2, h2⟩
    rw [← HC2.out]
    have H6 := Lib.hid h2
    have d1 := (h2.cellV 1 rfl 1 CB.out).1
    clear h2
    go_wp2_with (fail)
    go_ret2
    refine ⟨rfl, v2, ?_⟩
    have h := H6.out.swap2.drop 1
    unfold HotM.get
    rw [if_pos HR.out.symm, ← HBS.out]
    exact h
set_option maxHeartbeats 3200000 in
theorem dropH_any (H : Own.St B w0 w (ARefH p v q vg h :: Ps)) (ok : HotM.Ok h) (a : Nat) : Calls Try.prog 17 #[ptr p, aV a] w fun e w' => e = .returned (.bool (isIn h a)) ∧ ∃ v', Own.St B w0 w' (ARefH p v' q vg (HotM.drop h a) :: Ps) := by
  have hn4 : h.L.length ≤ 4096 := Nat.le_trans ok.len ok.room
  have C := Lib.hid (take_any H (by omega) a)
  obtain ⟨r, hr⟩ : ∃ r, r = isIn h a := ⟨_, rfl⟩
  obtain ⟨cs, hcs⟩ : ∃ cs, cs = itC (itemOf h a) := ⟨_, rfl⟩
  have CL : Hid (cs.length = 2) := by show _ = _; rw [hcs]; rfl
  have CO : Hid (∀ u ∈ cs, u.oneCell' = true) := by rw [hcs]; exact itC_one _
  rw [← hr, ← hcs] at C
  rw [← hr]
  clear H hr hcs ok hn4
  go_enter Try.func17, Try.ntmps17
  go_wp2_with (fail)
  refine C.out.mono ?_
  rintro e w1 ⟨rfl, v1, h1⟩
  have H1 := Lib.hid h1
  clear C h1
  go_wp2_with (refine wpList_box2 boxy_it rfl rfl rfl (.tmp 5) (.tmp 11) rfl rfl cs (fun _ => rfl) (fun _ => rfl) CL.out CO.out H1.out ?_; intro b6 w5 h5; have H5 := Lib.hid h5; clear h5)
  go_ret
  exact ⟨rfl, v1, H5.out.drop 1⟩
end
end Hot
end Go.Proofs.Ytameigmoabimiaa

end
section
namespace Go.Proofs.Ytameigmoabimiaa
open Go.RowKit Go.Own
namespace Hot
open Go.GhoM Go.HotM Byt Gho
theorem built_it2 (a : Nat) (b : List UInt8) : Try.prog.built 69 [(0, aV a), (1, strV b)] = some (itC ⟨a, b⟩).toArray := by kernel_rfl
section
variable {B : Nat} {w0 w : World} {Ps : List Asn} {p q : Nat} {v vg : Value} {h : H}
set_option maxHeartbeats 6400000 in
theorem offerR_any (H : Own.St B w0 w (ARefH p v q vg h :: Ps)) (ok : HotM.Ok h) (a : Nat) (b : List UInt8) : Calls Try.prog 13 #[ptr p, aV a, strV b] w fun e w' => e = .returned (.bool (offB h a)) ∧ ∃ v' vg', Own.St B w0 w' (ARefH p v' q vg' (HotM.offer h a b) :: Ps) := by
  have hn4 : h.L.length ≤ 4096 := Nat.le_trans ok.len ok.room
  have C := Lib.hid (take_any H (by omega) a)
  obtain ⟨r, hr⟩ : ∃ r, r = isIn h a := ⟨_, rfl⟩
  obtain ⟨cs, hcs⟩ : ∃ cs, cs = itC (itemOf h a) := ⟨_, rfl⟩
  have CL : Hid (cs.length = 2) := by show _ = _; rw [hcs]; rfl
  have CO : Hid (∀ u ∈ cs, u.oneCell' = true) := by rw [hcs]; exact itC_one _
  rw [← hr, ← hcs] at C
  obtain ⟨ob, hob⟩ : ∃ x, x = offB h a := ⟨_, rfl⟩
  rw [← hob]
  have HOB := Lib.hid hob
  have HR := Lib.hid hr
  have OK := Lib.hid ok
  have HN4 := Lib.hid hn4
  have hg4 : h.g.L.length ≤ 100000 := Nat.le_trans ok.g.len (Nat.le_trans ok.groom (by decide))
  have hg5 : h.g.room ≤ 100000 := Nat.le_trans ok.groom (by decide)
  obtain ⟨room, hroom⟩ : ∃ x, x = h.room := ⟨_, rfl⟩
  have hrm : room ≤ 4096 := by rw [hroom]; exact ok.room
  have HRM := Lib.hid hroom
  have G4 := Lib.hid hg4
  have G5 := Lib.hid hg5
  have BI := Lib.hid (built_it2 a b)
  obtain ⟨c2, hc2⟩ : ∃ c, c = itC ⟨a, b⟩ := ⟨_, rfl⟩
  rw [← hc2] at BI
  have HC2 := Lib.hid hc2
  clear H hr hcs ok hn4 hob hroom hg4 hg5 hc2
  go_enter Try.func13, Try.ntmps13
  go_wp2_with (fail)
  refine C.out.mono ?_
  rintro e w1 ⟨rfl, v1, h1⟩
  have H1 := Lib.hid h1
  clear C h1
  cases r
  · have hd0 : HotM.drop h a = h := drop_none HR.out.symm
    rw [hd0] at H1
    have hrs : rest a h.L = h.L := rest_none (isIn_not.1 HR.out.symm)
    have HRS := Lib.hid hrs
    clear hd0 hrs
    go_wp2_with (refine wpList_box2 boxy_it rfl rfl rfl (.tmp 7) (.tmp 13) rfl rfl cs (fun _ => rfl) (fun _ => rfl) CL.out CO.out H1.out ?_; intro b7 w5 h5; have h6 := refh_open (h5.drop 1); have c0 := (h6.cellV 0 rfl 2 rfl).1; have H6 := Lib.hid h6; clear h5 h6)
    have hperm := (H6.out.front 2 rfl)
    simp only [List.eraseIdx_cons_succ, List.eraseIdx_cons_zero] at hperm
    refine (askR_any hperm G4.out G5.out a).mono ?_
    obtain ⟨k, hk⟩ : ∃ k, k = has h.g a := ⟨_, rfl⟩
    rw [← hk]
    have HK := Lib.hid hk
    clear hperm hk
    rintro e w6 ⟨rfl, vg2, h7⟩
    have h8 := (h7.perm (List.perm_middle (l₁ := [_, _])).symm)
    have H8 := Lib.hid h8
    have c1 := (h8.cellV 0 rfl 1 rfl).1
    have hof : ob = (k && !decide (h.room = 0)) := by
      rw [HOB.out]
      unfold offB
      rw [← HR.out, ← HK.out]
      rfl
    have hL : (HotM.offer h a b).g = GhoM.ask h.g a := by
      unfold HotM.offer
      show (if isIn h a = true then h.g else GhoM.ask h.g a) = _
      rw [if_neg (by rw [← HR.out]; simp)]
    have HLG := Lib.hid hL
    rw [← HRM.out] at c1 hof
    clear h7 h8 hL
    cases k
    · have hob2 : ob = false := by rw [hof]; rfl
      have HOF : Hid ((HotM.offer h a b).L = h.L) := by show _ = _; exact offer_not (by rw [← HOB.out]; exact hob2)
      subst hob2
      clear hof
      go_wp2_with (fail)
      go_ret
      refine ⟨rfl, v1, vg2, refh_close ?_⟩
      rw [HOF.out, HLG.out]
      exact H8.out
    · by_cases hz : room = 0
      · subst hz
        have hob2 : ob = false := by rw [hof]; rfl
        have HOF : Hid ((HotM.offer h a b).L = h.L) := by show _ = _; exact offer_not (by rw [← HOB.out]; exact hob2)
        subst hob2
        clear hof
        go_wp2_with (fail)
        go_ret
        refine ⟨rfl, v1, vg2, refh_close ?_⟩
        rw [HOF.out, HLG.out]
        exact H8.out
      · have hob2 : ob = true := by rw [hof, decide_eq_false hz]; rfl
        have hz2 : ¬ (room : Int) = 0 := by omega
        have hz3 : ((room : Int) == 0) = false := by simp; omega
        have HOF : Hid ((HotM.offer h a b).L = frontL h.room ⟨a, b⟩ h.L) := by
          show (if offB h a = true then frontL h.room ⟨a, b⟩ (rest a h.L) else h.L) = _
          rw [if_pos (by rw [← HOB.out]; exact hob2), HRS.out]
        subst hob2
        clear hof
        have h9 : Own.St B w0 w6 (ARefH p v1 q vg2 ⟨h.L, h.room, GhoM.ask h.g a⟩ :: Ps) := refh_close H8.out
        have H9 := Lib.hid h9
        clear h9
        go_wp2_with (refine Own.wpList_built rfl 69 #[(0, .tmp 34), (1, .tmp 35)] rfl c2.toArray ?_ ?_; · (simp only [List.map_toArray, List.map_cons, List.map_nil, List.toList_toArray]; exact BI.out))
        rw [HC2.out]
        refine (front_any H9.out (Nat.le_trans HN4.out (by decide)) (by show h.room ≤ _; rw [← HRM.out]; omega) ⟨a, b⟩).mono ?_
        rintro e wz ⟨rfl, v2, hz9⟩
        have HZ := Lib.hid hz9
        clear hz9
        go_wp2_with (fail)
        go_ret
        refine ⟨rfl, v2, vg2, ?_⟩
        have e1 : HotM.offer h a b = ⟨frontL h.room ⟨a, b⟩ h.L, h.room, GhoM.ask h.g a⟩ := by
          rw [← HOF.out, ← HLG.out]
          rfl
        rw [e1]
        exact HZ.out
  · have hob2 : ob = true := by
      rw [HOB.out]
      unfold offB
      rw [← HR.out]
      rfl
    have HOF : Hid (HotM.offer h a b = ⟨frontL h.room ⟨a, b⟩ (HotM.drop h a).L, h.room, h.g⟩) := by
      show _ = _
      unfold HotM.offer
      rw [if_pos (by rw [← HOB.out]; exact hob2), if_pos HR.out.symm]
      rfl
    have hl : (HotM.drop h a).L.length ≤ 100000 := by
      have h1 := (ok_drop OK.out a).len
      have h2 := OK.out.room
      have h3 : (HotM.drop h a).room = h.room := rfl
      omega
    have HL := Lib.hid hl
    subst hob2
    clear hl
    go_wp2_with (first
      | (refine wpList_box2 boxy_it rfl rfl rfl (.tmp 7) (.tmp 13) rfl rfl cs (fun _ => rfl) (fun _ => rfl) CL.out CO.out H1.out ?_; intro b7 w5 h5; have H5 := Lib.hid (h5.drop 1); clear h5)
      | (refine Own.wpList_built rfl 69 #[(0, .tmp 34), (1, .tmp 35)] rfl c2.toArray ?_ ?_; · (simp only [List.map_toArray, List.map_cons, List.map_nil, List.toList_toArray]; exact BI.out)))
    rw [HC2.out]
    refine (front_any H5.out HL.out (by show h.room ≤ _; rw [← HRM.out]; omega) ⟨a, b⟩).mono ?_
    rintro e wz ⟨rfl, v2, hz9⟩
    have HZ := Lib.hid hz9
    clear hz9
    go_wp2_with (fail)
    go_ret
    refine ⟨rfl, v2, vg, ?_⟩
    rw [HOF.out]
    exact HZ.out
set_option maxHeartbeats 3200000 in
theorem allR_any (H : Own.St B w0 w (ARefH p v q vg h :: Ps)) (ok : HotM.Ok h) : Calls Try.prog 20 #[ptr p] w fun e w' => ∃ ao c, e = .returned (.slice ao (keys h).length c) ∧ Own.St B w0 w' (RowU (.slice ao (keys h).length c) (keys h) (keys h).length :: ARefH p v q vg h :: Ps) := by
  have h0 := refh_open H
  obtain ⟨ao, cap, rfl⟩ := h0.rowForm 1 rfl
  obtain ⟨n, hnn⟩ : ∃ n, n = h.L.length := ⟨_, rfl⟩
  have hn4 : n ≤ 4096 := by rw [hnn]; exact Nat.le_trans ok.len ok.room
  rw [show (keys h).length = n by rw [hnn]; exact List.length_map ..]
  obtain ⟨hx1, hx2, hx3, hx4⟩ := h0.rowLen 1 rfl
  have hx5 : cap ≤ 9223372036854775807 := by unfold maxLen at hx3; omega
  have HN := Lib.hid hnn
  have H0 := Lib.hid H
  clear H h0 ok hnn hx1 hx2 hx3 hx4
  go_enter Try.func20, Try.ntmps20
  go_wp2
  go_loopw [3, 4] (fun v3 v4 wr => ∃ (i : Nat) (a : Option Addr) (c : Nat), i ≤ n ∧ v3 = .slice a i c ∧ v4 = .int .i64 (i : Int) ∧ Own.St B w0 wr (RowU (.slice a i c) ((keys h).take i) i :: ARefH p (.slice ao n cap) q vg h :: Ps)) (fun _ v4 _ => n - (intOf v4).toNat)
  case atStart => exact ⟨0, none, 0, Nat.zero_le _, rfl, rfl, by rw [HN.out]; exact H0.out.rowFresh⟩
  case round =>
    obtain ⟨i, a, c, hin, rfl, rfl, hr⟩ := hrel
    have ho := refh_open hr.swap2
    rw [← HN.out] at ho
    have c0 := (ho.cellV 0 rfl 0 rfl).1
    by_cases hi : (i : Int) < (n : Int)
    · have hin2 : i < n := by omega
      have hil : i < h.L.length := by rw [← HN.out]; exact hin2
      obtain ⟨x, hx⟩ : ∃ x, h.L[i]? = some x := ⟨_, List.getElem?_eq_getElem hil⟩
      have hfa := flat_at itC 2 h.L (fun _ _ => rfl) i x hx
      obtain ⟨b, hb, ⟨u, hu, hc⟩, _, _⟩ := ho.rowAt 1 rfl (i * 2) (by omega)
      have hu2 : u = aV x.addr := by
        have := hfa 0 (by omega)
        rw [Nat.add_zero, hu] at this
        exact Option.some.inj this
      subst hb hu2
      obtain ⟨y, hy⟩ : ∃ y, y = x.addr := ⟨_, rfl⟩
      rw [← hy] at hc
      have ht : (keys h).take (i + 1) = (keys h).take i ++ [y] := by
        unfold keys
        rw [List.take_add_one, List.getElem?_map, hx, hy]
        rfl
      have HA := Lib.hid (hr.alloc (.cells #[aV y] 31))
      have CN : Hid (∀ a', some (⟨wr.heap.size, 0, none⟩ : Addr) = some a' → ∀ j u, [aV y][j]? = some u → (wr.alloc (.cells #[aV y] 31)).cell? (a'.add j) = some u) := by
        intro a' ha j u hu
        cases ha
        rw [add_of, Nat.zero_add]
        exact cell_of_block (heap_alloc_new wr _) (by simpa using hu)
      have HT := Lib.hid ht
      clear hr ho hu hx hfa ht H0 hy
      go_wp2_with (first
        | (refine wpList_val rfl (idx_it rfl hin2 _ _ rfl rfl) ?_)
        | (at_builtin; refine wpList_many_append manyU rfl (.tmp 14) (.tmp 23) rfl HA.out 0 rfl rfl (some ⟨wr.heap.size, 0, none⟩) 1 1 [aV y] rfl (by intro h; cases h) rfl CN.out (by intro u hu; simp at hu; subst hu; rfl) (by omega) (by decide) ?_; intro a2 c2 w2 h2; simp only [List.set_cons_zero] at h2 ⊢; have H2 := Lib.hid h2; clear h2))
      go_roundw
      case rel =>
        refine ⟨i + 1, a2, c2, by omega, rfl, by go_num, ?_⟩
        have hh := H2.out
        rw [show List.map aV (List.take i (keys h)) ++ [aV y] = (List.take (i + 1) (keys h)).map aV by rw [HT.out, List.map_append]; rfl] at hh
        exact hh
      case measure => simp [intOf]; omega
    · obtain rfl : i = n := by omega
      have HH := Lib.hid hr
      clear hr ho H0
      go_wp2
      go_ret
      refine ⟨a, c, rfl, ?_⟩
      have hh := HH.out
      rw [List.take_of_length_le (by unfold keys; rw [List.length_map, ← HN.out]; omega)] at hh
      rw [HN.out] at hh ⊢
      exact hh
theorem newR_any (room known : Nat) (H : Own.St B w0 w Ps) : Calls Try.prog 10 #[.int .i64 (room : Int), .int .i64 (known : Int)] w fun e w' => ∃ p v q vg, e = .returned (ptr p) ∧ Own.St B w0 w' (ARefH p v q vg (newH room known) :: Ps) := by
  have h1 := (H.rowFresh (e := 31) (size := 1)).boxV 59 (gC (.slice none 0 0) known)
  obtain ⟨b, hb⟩ : ∃ b, b = w.heap.size := ⟨_, rfl⟩
  obtain ⟨W1, hW1⟩ : ∃ W, W = w.alloc (.cells (gC (.slice none 0 0) known).toArray 59) := ⟨_, rfl⟩
  rw [← hW1, ← hb] at h1
  have E1 : w.alloc (.cells #[.slice none 0 0, .int .i64 (known : Int)] 59) = W1 := hW1.symm
  have EB := hb.symm
  have h2 : Own.St B w0 W1 (ARefG b (.slice none 0 0) (newG known) :: Ps) := Gho.ref_close h1
  have h3 := (h2.rowFresh (e := 69) (size := 2)).boxV 62 (hC (.slice none 0 0) room b)
  have H3 : Hid (Own.St B w0 (W1.alloc (.cells #[.slice none 0 0, .int .i64 (room : Int), ptr b] 62)) (ARefH W1.heap.size (.slice none 0 0) b (.slice none 0 0) (newH room known) :: Ps)) := refh_close (h := newH room known) h3
  clear H h1 h2 h3 hb hW1
  go_enter Try.func10, Try.ntmps10
  go_wp2
  go_ret
  exact ⟨_, _, _, _, rfl, H3.out⟩
end
end Hot
end Go.Proofs.Ytameigmoabimiaa

end
