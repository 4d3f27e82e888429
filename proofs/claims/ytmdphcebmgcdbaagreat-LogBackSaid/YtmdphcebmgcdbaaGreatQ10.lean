/- Merged: SrtI SrtJ TbaH TbaX FlbA FlbB FlbC FlbD FlbE FlbF FlbH FlbI FlbJ -/
import Derived.Sort.Walk13a
import Derived.Deep.LoopGhost
import Derived.Deep.CutRange
import Derived.Deep.MidRow
import Derived.Laws.Rows
import Derived.Lib.Hide
import Derived.Deep.RegionLaw
import Derived.Great.Walk
import Derived.Test.YtmdphcebmgcdbaaGreatQ2
import Derived.Test.YtmdphcebmgcdbaaGreatQ4
import Derived.Test.YtmdphcebmgcdbaaGreatQ6
import Derived.Test.YtmdphcebmgcdbaaGreatQ7
import Derived.Test.YtmdphcebmgcdbaaGreatQ8
import Derived.Test.YtmdphcebmgcdbaaGreatQ9
set_option linter.unusedVariables false
section
namespace Go.Proofs.YtmdphcebmgcdbaaGreat
open Go.RowKit Go.Own
namespace Srt
section
variable {f : FuncId} {bs cb : Array Value} {cf : Nat → Nat → Int} {Ok : Nat → Prop} {B : Nat} {w0 w : World} {Ts Rs : List Asn} {g n c : Nat} {d : Array Nat}
def PdqAt (f : FuncId) (bs cb : Array Value) (cf : Nat → Nat → Int) (Ok : Nat → Prop) (B : Nat) (w0 : World) (Ts : List Asn) (g n c : Nat) (Rs : List Asn) (m : Nat) : Prop :=
  ∀ (w : World) (d : Array Nat) (a b limit : Nat), Sd Ok B w0 Ts g n c Rs w d → a ≤ b → b ≤ n → b - a ≤ m → limit ≤ 1000 → Sort.Below (ltc cf) a b d →
    Calls Tryz.prog 49 #[.slice (some ⟨g, 0, none⟩) n c, .int .i64 (a : Int), .int .i64 (b : Int), .int .i64 (limit : Int), fvOf f bs cb] w fun e w' => e = .returned (.tuple #[]) ∧ Sd Ok B w0 Ts g n c Rs w' (Sort.pdq (ltc cf) d a b limit true true)
set_option maxRecDepth 6000 in
set_option maxHeartbeats 40000000 in
theorem pdq_step (K : Cmp f bs cb cf Ok B w0 Ts) (hO : Sort.SWO (ltc cf)) (hn : n ≤ 100000) (m : Nat) (ih : ∀ k, k < m → PdqAt f bs cb cf Ok B w0 Ts g n c Rs k) : PdqAt f bs cb cf Ok B w0 Ts g n c Rs m := by
  intro w d a b limit S hab hbn hbm hlim hB
  have HS := Lib.hid S
  have HO := Lib.hid hO
  have ENT := Lib.hid K.ent
  have IH := Lib.hid ih
  have HB0 := Lib.hid hB
  have KS := Lib.hid (fun (w : World) (d : Array Nat) (S : Sd Ok B w0 Ts g n c Rs w d) (a b : Nat) (h1 : a ≤ b) (h2 : b ≤ n) => insertion_any K S a b h1 h2 (by omega))
  have KH := Lib.hid (fun (w : World) (d : Array Nat) (S : Sd Ok B w0 Ts g n c Rs w d) (a b : Nat) (h1 : a < b) (h2 : b ≤ n) => heap_any K S a b h1 h2 hn)
  have KB := Lib.hid (fun (w : World) (d : Array Nat) (S : Sd Ok B w0 Ts g n c Rs w d) (a b : Nat) (h1 : a + 12 < b) (h2 : b ≤ n) => break_any S a b h1 h2 hn (fvOf f bs cb))
  have KC := Lib.hid (fun (w : World) (d : Array Nat) (S : Sd Ok B w0 Ts g n c Rs w d) (a b : Nat) (h1 : a + 12 < b) (h2 : b ≤ n) => choose_any K S a b h1 h2 hn)
  have KR := Lib.hid (fun (w : World) (d : Array Nat) (S : Sd Ok B w0 Ts g n c Rs w d) (a b : Nat) (h1 : a ≤ b) (h2 : b ≤ n) => reverse_any S a b h1 h2 (by omega) (fvOf f bs cb))
  have KI := Lib.hid (fun (w : World) (d : Array Nat) (S : Sd Ok B w0 Ts g n c Rs w d) (a b : Nat) (h1 : a + 12 < b) (h2 : b ≤ n) => partialIns_any K S a b h1 h2 hn)
  have KE := Lib.hid (fun (w : World) (d : Array Nat) (S : Sd Ok B w0 Ts g n c Rs w d) (a b p : Nat) (h1 : a ≤ p) (h2 : p < b) (h3 : b ≤ n) => partEq_any K S a b p h1 h2 h3 hn)
  have KP := Lib.hid (fun (w : World) (d : Array Nat) (S : Sd Ok B w0 Ts g n c Rs w d) (a b p : Nat) (h1 : a ≤ p) (h2 : p < b) (h3 : b ≤ n) => part_any K S a b p h1 h2 h3 hn)
  obtain ⟨R, hR⟩ : ∃ R, R = Sort.pdq (ltc cf) d a b limit true true := ⟨_, rfl⟩
  rw [← hR]
  have HR0 := Lib.hid hR.symm
  clear S hR hO ih hB
  go_enter Tryz.func49, Tryz.ntmps49
  go_wp2
  go_loopg [1, 2, 3, 10, 11] (b - a) (fun gk v1 v2 v3 v10 v11 wr => ∃ (a b lim : Nat) (wb wp : Bool) (dk : Array Nat), v1 = .int .i64 (a : Int) ∧ v2 = .int .i64 (b : Int) ∧ v3 = .int .i64 (lim : Int) ∧ v10 = .bool wb ∧ v11 = .bool wp ∧ a ≤ b ∧ b ≤ n ∧ b - a ≤ gk ∧ b - a ≤ m ∧ lim ≤ 1000 ∧ Sort.Below (ltc cf) a b dk ∧ Sd Ok B w0 Ts g n c Rs wr dk ∧ Sort.pdq (ltc cf) dk a b lim wb wp = R)
  case atStart => exact ⟨a, b, limit, true, true, d, rfl, rfl, rfl, rfl, rfl, hab, hbn, Nat.le_refl _, hbm, hlim, HB0.out, HS.out, HR0.out⟩
  case round =>
    clear hab hbn hbm hlim HB0
    obtain ⟨a, b, lim, wb, wp, dk, rfl, rfl, rfl, rfl, rfl, hab, hbn, hgk, hbm, hlim, hB, hs, heq⟩ := hrel
    have HK := Lib.hid hs
    have HE := Lib.hid heq
    have HBL := Lib.hid hB
    clear hs heq hB HS HR0
    obtain ⟨l, hl⟩ : ∃ l, l = b - a := ⟨_, rfl⟩
    have hlI : (b : Int) - (a : Int) = (l : Int) := by omega
    have hlb : l ≤ 100000 := by omega
    have HLE := Lib.hid hl
    clear hl
    by_cases h12 : l ≤ 12
    · have h12I : (l : Int) ≤ 12 := by omega
      have HRR : Hid (R = Sort.insertionSort (ltc cf) dk a b) := by show _ = _; rw [← HE.out]; exact Sort.pdq_small (by rw [← HLE.out]; exact h12)
      have CC := Lib.hid (KS.out _ _ HK.out a b hab hbn)
      rw [← HRR.out] at CC
      clear HE
      go_wp2_with (fail)
      refine CC.out.mono ?_
      clear CC
      rintro e w1 ⟨rfl, h⟩
      have S1 := Lib.hid h
      clear h
      go_wp2
      refine bodyPost_ret (results_none rfl _ _ _) rfl ?_
      exact ⟨rfl, S1.out⟩
    · have h12I : ¬ (l : Int) ≤ 12 := by omega
      by_cases hl0 : lim = 0
      · subst hl0
        have HRR : Hid (R = Sort.heapSort (ltc cf) dk a b) := by show _ = _; rw [← HE.out]; exact Sort.pdq_heap (by rw [← HLE.out]; exact h12) rfl
        have CC := Lib.hid (KH.out _ _ HK.out a b (by have := HLE.out; omega) hbn)
        rw [← HRR.out] at CC
        clear HE
        go_wp2_with (fail)
        refine CC.out.mono ?_
        clear CC
        rintro e w1 ⟨rfl, h⟩
        have S1 := Lib.hid h
        clear h
        go_wp2
        refine bodyPost_ret (results_none rfl _ _ _) rfl ?_
        exact ⟨rfl, S1.out⟩
      · have hl0I : ((lim : Int) == 0) = false := by simp; omega
        have hal : a + l = b := by have := HLE.out; omega
        have hl13 : 13 ≤ l := by omega
        obtain ⟨r, hr⟩ : ∃ r, r = Sort.rd (ltc cf) dk a b lim wb wp := ⟨_, rfl⟩
        have FF := Sort.rd_facts (lt := ltc cf) (limit := lim) (wb := wb) (wp := wp) HO.out Sort.partialInsertionSort_holds Sort.reverseRange_holds (show a < b by omega) (show b ≤ dk.size by rw [HK.out.size]; exact hbn) HBL.out
        rw [← hr] at FF
        obtain ⟨s1, _, hc1, s2, _, hpv, s3, hbp⟩ := FF
        have BPI := Lib.hid hbp
        obtain ⟨pv, hpve⟩ : ∃ p, p = r.pivot := ⟨_, rfl⟩
        rw [← hpve] at hpv
        obtain ⟨hpa, hpb⟩ := hpv
        obtain ⟨hca, hcb⟩ := hc1
        have hpvn : pv < n := by omega
        have hN12 : ¬ b - a ≤ 12 := by omega
        have HDONE : Hid (r.pi.2 = true → R = r.pi.1) := fun h => by rw [← HE.out, hr]; exact Sort.pdq_done hN12 hl0 (by rw [← hr]; exact h)
        have HEQ0 : Hid (r.pi.2 = false → (decide (a > 0) && !ltc cf r.pi.1[a - 1]! r.pi.1[pv]!) = true → a < (Sort.partitionEqual (ltc cf) r.pi.1 a b pv).1 ∧ (Sort.partitionEqual (ltc cf) r.pi.1 a b pv).1 ≤ b → R = Sort.pdq (ltc cf) (Sort.partitionEqual (ltc cf) r.pi.1 a b pv).2 (Sort.partitionEqual (ltc cf) r.pi.1 a b pv).1 b r.lim wb wp) := fun h1 h2 h3 => by
          rw [← HE.out]; rw [hpve, hr] at h2 h3; rw [hr] at h1; rw [hpve, hr]; exact Sort.pdq_eq hN12 hl0 h1 h2 h3
        have HPA0 : Hid (r.pi.2 = false → (decide (a > 0) && !ltc cf r.pi.1[a - 1]! r.pi.1[pv]!) = false → a ≤ (Sort.partition (ltc cf) r.pi.1 a b pv).1 ∧ (Sort.partition (ltc cf) r.pi.1 a b pv).1 < b →
            (((Sort.partition (ltc cf) r.pi.1 a b pv).1 - a < b - (Sort.partition (ltc cf) r.pi.1 a b pv).1 → R = Sort.pdq (ltc cf) (Sort.pdq (ltc cf) (Sort.partition (ltc cf) r.pi.1 a b pv).2.2 a (Sort.partition (ltc cf) r.pi.1 a b pv).1 r.lim true true) ((Sort.partition (ltc cf) r.pi.1 a b pv).1 + 1) b r.lim (decide ((Sort.partition (ltc cf) r.pi.1 a b pv).1 - a ≥ (b - a) / 8)) (Sort.partition (ltc cf) r.pi.1 a b pv).2.1) ∧
            (¬ (Sort.partition (ltc cf) r.pi.1 a b pv).1 - a < b - (Sort.partition (ltc cf) r.pi.1 a b pv).1 → R = Sort.pdq (ltc cf) (Sort.pdq (ltc cf) (Sort.partition (ltc cf) r.pi.1 a b pv).2.2 ((Sort.partition (ltc cf) r.pi.1 a b pv).1 + 1) b r.lim true true) a (Sort.partition (ltc cf) r.pi.1 a b pv).1 r.lim (decide (b - (Sort.partition (ltc cf) r.pi.1 a b pv).1 ≥ (b - a) / 8)) (Sort.partition (ltc cf) r.pi.1 a b pv).2.1))) := fun h1 h2 h3 => by
          rw [← HE.out]; rw [hpve, hr] at h2 h3; rw [hr] at h1; rw [hpve, hr]; exact ⟨fun h4 => Sort.pdq_left hN12 hl0 h1 h2 h3 h4, fun h4 => Sort.pdq_right hN12 hl0 h1 h2 h3 h4⟩
        have HPV := Lib.hid hpve
        have HRD := Lib.hid hr
        have hpvb : pv ≤ 100000 := by omega
        clear hbp HE s1 s2 s3 HBL hpve hr
        obtain ⟨lim2, hlim2e⟩ : ∃ x, x = r.lim := ⟨_, rfl⟩
        have hlim2 : lim2 ≤ 1000 := by rw [hlim2e, HRD.out]; exact Nat.le_trans Sort.rd_lim_le hlim
        have HLIM : Hid (r.lim = lim2) := hlim2e.symm
        clear hlim2e
        go_upto_if 39 with (fail)
        go_cut [3] from 21 to 147 (fun s3 wx => s3 = .int .i64 (lim2 : Int) ∧ Sd Ok B w0 Ts g n c Rs wx r.d1)
        case first =>
          cases wb with
          | false =>
            have hlimI : (lim : Int) - 1 = (lim2 : Int) := by have e := HLIM.out; rw [HRD.out] at e; have e2 : lim - 1 = lim2 := e; omega
            have BC := Lib.hid (KB.out _ _ HK.out a b (by omega) hbn)
            have hd1 : Sort.breakPatterns dk a b = r.d1 := by rw [HRD.out]; rfl
            rw [hd1] at BC
            clear hd1 hl0
            go_wp2_with (fail)
            refine BC.out.mono ?_
            clear BC
            rintro e w1 ⟨rfl, h⟩
            have S1 := Lib.hid h
            clear h
            go_wp2
            go_meet
            case rel => exact ⟨(by first | rfl | go_num), S1.out⟩
          | true =>
            have hle : lim = lim2 := by have e := HLIM.out; rw [HRD.out] at e; exact e
            have hd1 : r.d1 = dk := by rw [HRD.out]; rfl
            have S1 := Lib.hid (HK.out.eqd hd1)
            have HLL := Lib.hid hle
            clear hd1 hl0 hle
            go_wp2
            go_meet
            case rel => exact ⟨by rw [HLL.out], S1.out⟩
        case rest =>
          obtain ⟨rfl, hs1⟩ := hcut
          have S1 := Lib.hid hs1
          clear hs1 HK hl0I hl0
          have CC := Lib.hid (KC.out _ _ S1.out a b (by omega) hbn)
          have hcc : Sort.choosePivot (ltc cf) r.d1 a b = r.c := by rw [HRD.out]; rfl
          rw [hcc] at CC
          obtain ⟨c0, hc0⟩ : ∃ x, x = r.c.1 := ⟨_, rfl⟩
          obtain ⟨hv, hhv⟩ : ∃ x, hintV r.c.2 = .int .i64 x := by cases r.c.2 <;> exact ⟨_, rfl⟩
          obtain ⟨hh, hhh⟩ : ∃ x, hintV r.hint = .int .i64 x := by cases r.hint <;> exact ⟨_, rfl⟩
          rw [← hc0, hhv] at CC
          have HHV := Lib.hid hhv
          have HHH := Lib.hid hhh
          have HC0 := Lib.hid hc0
          rw [← hc0] at hca hcb
          clear hcc hhv hhh hc0
          go_wp2_with (fail)
          refine CC.out.mono ?_
          clear CC
          rintro e w2 ⟨rfl, h⟩
          have S2 := Lib.hid h
          clear h
          go_upto_if 56 with (fail)
          go_cut [13, 14] from 21 to 147 (fun s13 s14 wx => s13 = .int .i64 (pv : Int) ∧ s14 = .int .i64 hh ∧ Sd Ok B w0 Ts g n c Rs wx r.d2)
          case first =>
            by_cases hdec : r.c.2 = .decreasing
            · obtain rfl : hv = 2 := by have hhv := HHV.out; rw [hdec] at hhv; cases hhv; rfl
              obtain ⟨e2, epv, eht⟩ := Sort.rd_dec (lt := ltc cf) (d := dk) (a := a) (b := b) (limit := lim) (wb := wb) (wp := wp) (by rw [← HRD.out]; exact hdec)
              rw [← HRD.out] at e2 epv eht
              have RC := Lib.hid (KR.out _ _ S2.out a b (by omega) hbn)
              rw [← e2] at RC
              have hpvI : (b : Int) - 1 - ((c0 : Int) - (a : Int)) = (pv : Int) := by have := HPV.out; have := HC0.out; omega
              have hh1 : hh = 1 := by have e := HHH.out; rw [eht] at e; cases e; rfl
              have hc1' : (a : Int) ≤ (c0 : Int) := by omega
              have hc2' : (c0 : Int) < (b : Int) := by omega
              have HH1 := Lib.hid hh1
              clear hdec e2 epv eht hh1
              go_wp2_with (fail)
              refine RC.out.mono ?_
              clear RC
              rintro e w3 ⟨rfl, h⟩
              have S3 := Lib.hid h
              clear h
              go_wp2
              go_meet
              case rel => exact ⟨(by first | rfl | go_num), by rw [HH1.out], S3.out⟩
            · have hv2 : (hv == 2) = false := by
                have hhv := HHV.out
                cases hcc : r.c.2 with
                | unknown => rw [hcc] at hhv; cases hhv; rfl
                | increasing => rw [hcc] at hhv; cases hhv; rfl
                | decreasing => exact absurd hcc hdec
              obtain ⟨e2, epv, eht⟩ := Sort.rd_not (lt := ltc cf) (d := dk) (a := a) (b := b) (limit := lim) (wb := wb) (wp := wp) (by rw [← HRD.out]; exact hdec)
              rw [← HRD.out] at e2 epv eht
              have HP : Hid (pv = c0) := by show _ = _; have := HPV.out; have := HC0.out; omega
              have HVH : Hid (hv = hh) := by show _ = _; have e1 := HHV.out; have e3 := HHH.out; rw [eht, e1] at e3; cases e3; rfl
              have S3 := Lib.hid (S2.out.eqd e2)
              clear hdec e2 epv eht
              go_wp2
              go_meet
              case rel => exact ⟨by rw [HP.out], by rw [HVH.out], S3.out⟩
          case rest =>
            obtain ⟨rfl, rfl, hs2⟩ := hcut
            have S2 := Lib.hid hs2
            clear hs2
            obtain ⟨q, hq⟩ : ∃ q, q = (wb && wp && decide (r.hint = .increasing)) := ⟨_, rfl⟩
            have HQ := Lib.hid hq
            clear hq
            go_upto_region 15 with (fail)
            go_cut [75] from 21 to 147 (fun s75 wx => s75 = .bool q ∧ Sd Ok B w0 Ts g n c Rs wx r.d2)
            case first =>
              cases wb with
              | false =>
                have Q : Hid (q = false) := HQ.out
                go_wp2
                go_meet
                case rel => exact ⟨by rw [Q.out], S2.out⟩
              | true =>
                cases wp with
                | false =>
                  have Q : Hid (q = false) := HQ.out
                  go_wp2
                  go_meet
                  case rel => exact ⟨by rw [Q.out], S2.out⟩
                | true =>
                  by_cases hinc : r.hint = .increasing
                  · obtain rfl : hh = 1 := by have e := HHH.out; rw [hinc] at e; cases e; rfl
                    have Q : Hid (q = true) := by show _ = _; rw [HQ.out, hinc]; rfl
                    clear hinc
                    go_wp2
                    go_meet
                    case rel => exact ⟨by rw [Q.out], S2.out⟩
                  · have hh1 : (hh == 1) = false := by
                      have e := HHH.out
                      cases hcc : r.hint with
                      | unknown => rw [hcc] at e; cases e; rfl
                      | increasing => exact absurd hcc hinc
                      | decreasing => rw [hcc] at e; cases e; rfl
                    have Q : Hid (q = false) := by show _ = _; rw [HQ.out]; simp [hinc]
                    clear hinc
                    go_wp2
                    go_meet
                    case rel => exact ⟨by rw [Q.out], S2.out⟩
            case rest =>
              obtain ⟨rfl, hs2⟩ := hcut
              have S2 := Lib.hid hs2
              clear hs2
              go_upto_if 75 with (fail)
              go_cut [] from 21 to 147 (fun wx => r.pi.2 = false ∧ Sd Ok B w0 Ts g n c Rs wx r.pi.1)
              case first =>
                cases q with
                | false =>
                  have HPI : Hid (r.pi = (r.d2, false)) := by show _ = _; have e := HQ.out; rw [HRD.out] at e ⊢; exact Sort.rd_pi_no e.symm
                  go_wp2
                  go_meet
                  case rel => exact ⟨by rw [HPI.out], by rw [HPI.out]; exact S2.out⟩
                | true =>
                  have HPI : Hid (r.pi = Sort.partialInsertionSort (ltc cf) r.d2 a b) := by show _ = _; have e := HQ.out; rw [HRD.out] at e ⊢; exact Sort.rd_pi_yes e.symm
                  have PC := Lib.hid (KI.out _ _ S2.out a b (by omega) hbn)
                  rw [← HPI.out] at PC
                  obtain ⟨dp, hdp⟩ : ∃ x, x = r.pi.1 := ⟨_, rfl⟩
                  obtain ⟨pq, hpq⟩ : ∃ x, x = r.pi.2 := ⟨_, rfl⟩
                  rw [← hdp, ← hpq] at PC
                  have HPQ := Lib.hid hpq
                  have HDP := Lib.hid hdp
                  clear hdp hpq
                  cases pq with
                  | true =>
                    have HRR := Lib.hid ((HDONE.out HPQ.out.symm).trans HDP.out.symm)
                    go_wp2_with (fail)
                    refine PC.out.mono ?_
                    clear PC
                    rintro e w4 ⟨rfl, h⟩
                    have S3 := Lib.hid h
                    clear h
                    go_wp2
                    refine bodyPost_ret (results_none rfl _ _ _) rfl ?_
                    rw [HRR.out]
                    exact ⟨rfl, S3.out⟩
                  | false =>
                    go_wp2_with (fail)
                    refine PC.out.mono ?_
                    clear PC
                    rintro e w4 ⟨rfl, h⟩
                    have S3 := Lib.hid h
                    clear h
                    go_wp2
                    go_meet
                    case rel => exact ⟨HPQ.out.symm, by rw [← HDP.out]; exact S3.out⟩
              case rest =>
                obtain ⟨hpi2, hs3⟩ := hcut
                obtain ⟨dp, hdp⟩ : ∃ x, x = r.pi.1 := ⟨_, rfl⟩
                rw [← hdp] at hs3
                have S3 := Lib.hid hs3
                have HEQP := Lib.hid (HEQ0.out hpi2)
                have HPART := Lib.hid (HPA0.out hpi2)
                have BP := Lib.hid BPI.out
                rw [← hdp] at HEQP HPART BP
                clear hdp hs3 hpi2 HEQ0 HPA0 BPI HDONE S2 S1
                by_cases ha0 : a = 0
                · have hgd : decide ((0 : Int) < (a : Int)) = false := decide_eq_false (by omega)
                  have h87 : Hid ((decide (a > 0) && !ltc cf dp[a - 1]! dp[pv]!) = false) := by show _ = _; simp [ha0]
                  have HA0 := Lib.hid ha0
                  clear ha0
                  go_wp2_with (fail)
                  refine lxX ?_; refine lxM (.int .i64 (a : Int)) rfl ?_; refine lxR (.tmp 81) (.int .i64 (a : Int)) (.bool false) (fun wx ρ hwx h0 hc => gtr_i rfl hgd ρ wx h0 (hc _)) ?_; refine lxM (.bool false) rfl ?_; refine lxS ?_; refine lxS ?_; refine lxS ?_; refine lxS ?_; refine lxS ?_; refine lxS ?_; refine lxS ?_; refine lxS ?_; refine lxS ?_; refine lxS ?_; refine lxS ?_; refine lxS ?_; refine lxS ?_; refine lxR (.tmp 83) (.bool false) (.bool false) (fun wx ρ hwx h0 hc => by simp [go_sem, h0, hc]) ?_
                  refine wpL_end (by kernel_rfl) (fun w1 hw1 => ?_)
                  simp only [FinL, setL, List.set_cons_zero, List.set_cons_succ]
                  have S4 := Lib.hid (S3.out.later hw1)
                  clear hgd S3
                  obtain ⟨⟨mid, ap, d4⟩, hpx⟩ : ∃ x, x = Sort.partition (ltc cf) dp a b pv := ⟨_, rfl⟩
                  have PP := Lib.hid (KP.out _ _ S4.out a b pv hpa hpb hbn)
                  rw [← hpx] at PP
                  obtain ⟨m1, m2, m3, m4, m5, m6, m7⟩ := Sort.round_part HO.out (Sort.partition_holds (ltc cf)) hpa hpb (by rw [S4.out.size]; exact hbn) BP.out hpx.symm
                  have M6 := Lib.hid m6
                  have M7 := Lib.hid m7
                  have M4 := Lib.hid m4
                  have M5 := Lib.hid m5
                  have HLR : Hid ((mid - a < b - mid → R = Sort.pdq (ltc cf) (Sort.pdq (ltc cf) d4 a mid lim2 true true) (mid + 1) b lim2 (decide (mid - a ≥ (b - a) / 8)) ap) ∧ (¬ mid - a < b - mid → R = Sort.pdq (ltc cf) (Sort.pdq (ltc cf) d4 (mid + 1) b lim2 true true) a mid lim2 (decide (b - mid ≥ (b - a) / 8)) ap)) := by
                    have e := HPART.out h87.out
                    rw [← hpx] at e
                    rw [← HLIM.out]
                    exact e ⟨m1, m2⟩
                  have hd4 : d4.size = n := m3.trans S4.out.size
                  clear hpx m3 m4 m5 m6 m7 h87 HPART HEQP S4
                  go_wp2_with (fail)
                  refine PP.out.mono ?_
                  clear PP
                  rintro e w5 ⟨rfl, h⟩
                  have S5 := Lib.hid h
                  clear h
                  obtain ⟨ml, hml⟩ : ∃ x, x = mid - a := ⟨_, rfl⟩
                  obtain ⟨mr, hmr⟩ : ∃ x, x = b - mid := ⟨_, rfl⟩
                  obtain ⟨l8, hl8⟩ : ∃ x, x = l / 8 := ⟨_, rfl⟩
                  have hmlI : (mid : Int) - (a : Int) = (ml : Int) := by omega
                  have hmrI : (b : Int) - (mid : Int) = (mr : Int) := by omega
                  have hl8I : (l : Int).tdiv 8 = (l8 : Int) := by rw [hl8]; rfl
                  obtain ⟨mid1, hmid1⟩ : ∃ x, x = mid + 1 := ⟨_, rfl⟩
                  have hmid1I : (mid : Int) + 1 = (mid1 : Int) := by omega
                  have HML := Lib.hid hml
                  have HMR := Lib.hid hmr
                  have HM1 := Lib.hid hmid1
                  have HL8 : Hid (l8 = (b - a) / 8) := by show _ = _; rw [hl8, ← HLE.out]
                  have hmb : ml ≤ 100000 := by omega
                  have hrb : mr ≤ 100000 := by omega
                  have h8b : l8 ≤ 100000 := by omega
                  have hmidb : mid ≤ 100000 := by omega
                  have hlm : ml + mr = l := by have := HLE.out; omega
                  clear hml hmr hl8 hmid1
                  by_cases h4 : ml < mr
                  · have h4I : (ml : Int) < (mr : Int) := by omega
                    have CR := Lib.hid (IH.out ml (by have := HLE.out; have := HML.out; omega) _ _ a mid lim2 S5.out m1 (by omega) (by have := HML.out; omega) hlim2 M4.out)
                    obtain ⟨d5, hd5⟩ : ∃ x, x = Sort.pdq (ltc cf) d4 a mid lim2 true true := ⟨_, rfl⟩
                    have hs5 := Sort.pdq_sorts (ltc cf) HO.out d4 a mid lim2 true true m1 (by omega) M4.out
                    rw [← hd5] at CR hs5
                    have B5 := Lib.hid (M6.out d5 hs5.1 hs5.2).1
                    have HE2 : Hid (Sort.pdq (ltc cf) d5 mid1 b lim2 (decide (ml ≥ l8)) ap = R) := by
                      show _ = _
                      rw [HLR.out.1 (by rw [← HML.out, ← HMR.out]; exact h4), ← hd5, HM1.out, HML.out, HL8.out]
                    clear hd5 hs5 HLR S5
                    go_wp2_with (fail)
                    refine CR.out.mono ?_
                    clear CR
                    rintro e w6 ⟨rfl, h⟩
                    have S6 := Lib.hid h
                    clear h
                    go_wp2
                    go_roundg (b - mid1)
                    case measure => have := HM1.out; omega
                    case rel => exact ⟨mid1, b, lim2, decide (ml ≥ l8), ap, d5, (by first | rfl | go_num), rfl, (by first | rfl | go_num), congrArg Value.bool (decide_eq_decide.2 (by omega)), rfl, by have := HM1.out; omega, hbn, Nat.le_refl _, by have := HM1.out; omega, hlim2, by rw [HM1.out]; exact B5.out, S6.out, HE2.out⟩
                  · have h4I : ¬ (ml : Int) < (mr : Int) := by omega
                    have CR := Lib.hid (IH.out (mr - 1) (by have := HLE.out; have := HML.out; omega) _ _ mid1 b lim2 S5.out (by have := HM1.out; omega) hbn (by have := HM1.out; have := HMR.out; omega) hlim2 (by rw [HM1.out]; exact M5.out))
                    obtain ⟨d5, hd5⟩ : ∃ x, x = Sort.pdq (ltc cf) d4 mid1 b lim2 true true := ⟨_, rfl⟩
                    have hs5 := Sort.pdq_sorts (ltc cf) HO.out d4 mid1 b lim2 true true (by have := HM1.out; omega) (by omega) (by rw [HM1.out]; exact M5.out)
                    rw [← hd5] at CR hs5
                    have B5 := Lib.hid (M7.out d5 (by rw [← HM1.out]; exact hs5.1) (by rw [← HM1.out]; exact hs5.2)).1
                    have HE2 : Hid (Sort.pdq (ltc cf) d5 a mid lim2 (decide (mr ≥ l8)) ap = R) := by
                      show _ = _
                      rw [HLR.out.2 (by rw [← HML.out, ← HMR.out]; exact h4), ← HM1.out, ← hd5, HMR.out, HL8.out]
                    clear hd5 hs5 HLR S5
                    go_wp2_with (fail)
                    refine CR.out.mono ?_
                    clear CR
                    rintro e w6 ⟨rfl, h⟩
                    have S6 := Lib.hid h
                    clear h
                    go_wp2
                    go_roundg (mid - a)
                    case measure => omega
                    case rel => exact ⟨a, mid, lim2, decide (mr ≥ l8), ap, d5, rfl, rfl, (by first | rfl | go_num), congrArg Value.bool (decide_eq_decide.2 (by omega)), rfl, m1, by omega, Nat.le_refl _, by omega, hlim2, B5.out, S6.out, HE2.out⟩
                · have hgd : decide ((0 : Int) < (a : Int)) = true := decide_eq_true (by omega)
                  obtain ⟨k, hak⟩ : ∃ k, a = k + 1 := ⟨a - 1, by omega⟩
                  have hkn : k < n := by omega
                  have hak1 : a - 1 = k := by omega
                  obtain ⟨x, hx⟩ : ∃ x, x = dp[k]! := ⟨_, rfl⟩
                  obtain ⟨y, hy⟩ : ∃ y, y = dp[pv]! := ⟨_, rfl⟩
                  obtain ⟨z, hz⟩ : ∃ z, z = cf x y := ⟨_, rfl⟩
                  have ASK := Lib.hid (ask_at K S3.out hkn hpvn)
                  have CX := Lib.hid (cell_at S3.out hkn)
                  have CY := Lib.hid (cell_at S3.out hpvn)
                  rw [← hx, ← hy, ← hz] at ASK
                  rw [← hx] at CX
                  rw [← hy] at CY
                  have HAK := Lib.hid hak
                  have H87 : Hid ((decide (a > 0) && !ltc cf dp[a - 1]! dp[pv]!) = !ltc cf x y) := by show _ = _; rw [hak1, ← hx, ← hy]; simp; intro _; omega
                  have HNL : Hid (ltc cf dp[a - 1]! dp[pv]! = ltc cf x y) := by show _ = _; rw [hak1, ← hx, ← hy]
                  clear hak hak1 ha0
                  by_cases hlt : ltc cf x y = true
                  · have HT := Lib.hid (ltc_t hlt hz)
                    have h87 : Hid ((decide (a > 0) && !ltc cf dp[a - 1]! dp[pv]!) = false) := by show _ = _; rw [H87.out, hlt]; rfl
                    clear hlt hz hx hy H87 HNL
                    go_wp2_with (fail)
                    refine lxX ?_; refine lxM (.int .i64 (a : Int)) rfl ?_; refine lxR (.tmp 81) (.int .i64 (a : Int)) (.bool true) (fun wx ρ hwx h0 hc => gtr_i rfl hgd ρ wx h0 (hc _)) ?_; refine lxM (.bool true) rfl ?_; refine lxM (fvOf f bs cb) rfl ?_; refine lxM (.slice (some ⟨g, 0, none⟩) n c) rfl ?_; refine lxM (.int .i64 (a : Int)) rfl ?_; refine lxR (.tmp 86) (.int .i64 (a : Int)) (.int .i64 (k : Int)) (fun wx ρ hwx h0 hc => bin_sub rfl _ 1 HAK.out (by omega) ρ wx h0 (hc _)) ?_; refine lxT (.tmp 85) (.tmp 87) (.slice (some ⟨g, 0, none⟩) n c) (.int .i64 (k : Int)) (.pointer (some ⟨g, k, none⟩)) (fun wx ρ hwx h0 h1 hc => idx_i rfl hkn ρ wx h0 h1) ?_; refine lxR (.tmp 88) (.pointer (some ⟨g, k, none⟩)) (iV x) (fun wx ρ hwx h0 hc => load_i rfl ρ (CX.out wx hwx) h0) ?_; refine lxM (.slice (some ⟨g, 0, none⟩) n c) rfl ?_; refine lxM (.int .i64 (pv : Int)) rfl ?_; refine lxT (.tmp 90) (.tmp 91) (.slice (some ⟨g, 0, none⟩) n c) (.int .i64 (pv : Int)) (.pointer (some ⟨g, pv, none⟩)) (fun wx ρ hwx h0 h1 hc => idx_i rfl hpvn ρ wx h0 h1) ?_; refine lxR (.tmp 92) (.pointer (some ⟨g, pv, none⟩)) (iV y) (fun wx ρ hwx h0 hc => load_i rfl ρ (CY.out wx hwx) h0) ?_
                    refine wpL_val (.int .i64 z) [iV x, iV y] (by kernel_rfl) (by kernel_rfl) rfl (by kernel_rfl) (by kernel_rfl) (by kernel_rfl) (by kernel_rfl) ENT.out (fun wx hwx => ASK.out wx hwx) ?_
                    refine lxR (.tmp 94) (.int .i64 z) (.bool true) (fun wx ρ hwx h0 hc => lss_i rfl HT.out ρ wx h0 (hc _)) ?_; refine lxR (.tmp 95) (.bool true) (.bool false) (fun wx ρ hwx h0 hc => not_b rfl rfl ρ wx h0) ?_; refine lxB (.tmp 83) (.tmp 96) (.bool true) (.bool false) (.bool false) ?_
                    refine wpL_end (by kernel_rfl) (fun w1 hw1 => ?_)
                    simp only [FinL, setL, List.set_cons_zero, List.set_cons_succ]
                    have S4 := Lib.hid (S3.out.later hw1)
                    clear hgd ASK CX CY HT S3
                    obtain ⟨⟨mid, ap, d4⟩, hpx⟩ : ∃ x, x = Sort.partition (ltc cf) dp a b pv := ⟨_, rfl⟩
                    have PP := Lib.hid (KP.out _ _ S4.out a b pv hpa hpb hbn)
                    rw [← hpx] at PP
                    obtain ⟨m1, m2, m3, m4, m5, m6, m7⟩ := Sort.round_part HO.out (Sort.partition_holds (ltc cf)) hpa hpb (by rw [S4.out.size]; exact hbn) BP.out hpx.symm
                    have M6 := Lib.hid m6
                    have M7 := Lib.hid m7
                    have M4 := Lib.hid m4
                    have M5 := Lib.hid m5
                    have HLR : Hid ((mid - a < b - mid → R = Sort.pdq (ltc cf) (Sort.pdq (ltc cf) d4 a mid lim2 true true) (mid + 1) b lim2 (decide (mid - a ≥ (b - a) / 8)) ap) ∧ (¬ mid - a < b - mid → R = Sort.pdq (ltc cf) (Sort.pdq (ltc cf) d4 (mid + 1) b lim2 true true) a mid lim2 (decide (b - mid ≥ (b - a) / 8)) ap)) := by
                      have e := HPART.out h87.out
                      rw [← hpx] at e
                      rw [← HLIM.out]
                      exact e ⟨m1, m2⟩
                    have hd4 : d4.size = n := m3.trans S4.out.size
                    clear hpx m3 m4 m5 m6 m7 h87 HPART HEQP S4
                    go_wp2_with (fail)
                    refine PP.out.mono ?_
                    clear PP
                    rintro e w5 ⟨rfl, h⟩
                    have S5 := Lib.hid h
                    clear h
                    obtain ⟨ml, hml⟩ : ∃ x, x = mid - a := ⟨_, rfl⟩
                    obtain ⟨mr, hmr⟩ : ∃ x, x = b - mid := ⟨_, rfl⟩
                    obtain ⟨l8, hl8⟩ : ∃ x, x = l / 8 := ⟨_, rfl⟩
                    have hmlI : (mid : Int) - (a : Int) = (ml : Int) := by omega
                    have hmrI : (b : Int) - (mid : Int) = (mr : Int) := by omega
                    have hl8I : (l : Int).tdiv 8 = (l8 : Int) := by rw [hl8]; rfl
                    obtain ⟨mid1, hmid1⟩ : ∃ x, x = mid + 1 := ⟨_, rfl⟩
                    have hmid1I : (mid : Int) + 1 = (mid1 : Int) := by omega
                    have HML := Lib.hid hml
                    have HMR := Lib.hid hmr
                    have HM1 := Lib.hid hmid1
                    have HL8 : Hid (l8 = (b - a) / 8) := by show _ = _; rw [hl8, ← HLE.out]
                    have hmb : ml ≤ 100000 := by omega
                    have hrb : mr ≤ 100000 := by omega
                    have h8b : l8 ≤ 100000 := by omega
                    have hmidb : mid ≤ 100000 := by omega
                    have hlm : ml + mr = l := by have := HLE.out; omega
                    clear hml hmr hl8 hmid1
                    by_cases h4 : ml < mr
                    · have h4I : (ml : Int) < (mr : Int) := by omega
                      have CR := Lib.hid (IH.out ml (by have := HLE.out; have := HML.out; omega) _ _ a mid lim2 S5.out m1 (by omega) (by have := HML.out; omega) hlim2 M4.out)
                      obtain ⟨d5, hd5⟩ : ∃ x, x = Sort.pdq (ltc cf) d4 a mid lim2 true true := ⟨_, rfl⟩
                      have hs5 := Sort.pdq_sorts (ltc cf) HO.out d4 a mid lim2 true true m1 (by omega) M4.out
                      rw [← hd5] at CR hs5
                      have B5 := Lib.hid (M6.out d5 hs5.1 hs5.2).1
                      have HE2 : Hid (Sort.pdq (ltc cf) d5 mid1 b lim2 (decide (ml ≥ l8)) ap = R) := by
                        show _ = _
                        rw [HLR.out.1 (by rw [← HML.out, ← HMR.out]; exact h4), ← hd5, HM1.out, HML.out, HL8.out]
                      clear hd5 hs5 HLR S5
                      go_wp2_with (fail)
                      refine CR.out.mono ?_
                      clear CR
                      rintro e w6 ⟨rfl, h⟩
                      have S6 := Lib.hid h
                      clear h
                      go_wp2
                      go_roundg (b - mid1)
                      case measure => have := HM1.out; omega
                      case rel => exact ⟨mid1, b, lim2, decide (ml ≥ l8), ap, d5, (by first | rfl | go_num), rfl, (by first | rfl | go_num), congrArg Value.bool (decide_eq_decide.2 (by omega)), rfl, by have := HM1.out; omega, hbn, Nat.le_refl _, by have := HM1.out; omega, hlim2, by rw [HM1.out]; exact B5.out, S6.out, HE2.out⟩
                    · have h4I : ¬ (ml : Int) < (mr : Int) := by omega
                      have CR := Lib.hid (IH.out (mr - 1) (by have := HLE.out; have := HML.out; omega) _ _ mid1 b lim2 S5.out (by have := HM1.out; omega) hbn (by have := HM1.out; have := HMR.out; omega) hlim2 (by rw [HM1.out]; exact M5.out))
                      obtain ⟨d5, hd5⟩ : ∃ x, x = Sort.pdq (ltc cf) d4 mid1 b lim2 true true := ⟨_, rfl⟩
                      have hs5 := Sort.pdq_sorts (ltc cf) HO.out d4 mid1 b lim2 true true (by have := HM1.out; omega) (by omega) (by rw [HM1.out]; exact M5.out)
                      rw [← hd5] at CR hs5
                      have B5 := Lib.hid (M7.out d5 (by rw [← HM1.out]; exact hs5.1) (by rw [← HM1.out]; exact hs5.2)).1
                      have HE2 : Hid (Sort.pdq (ltc cf) d5 a mid lim2 (decide (mr ≥ l8)) ap = R) := by
                        show _ = _
                        rw [HLR.out.2 (by rw [← HML.out, ← HMR.out]; exact h4), ← HM1.out, ← hd5, HMR.out, HL8.out]
                      clear hd5 hs5 HLR S5
                      go_wp2_with (fail)
                      refine CR.out.mono ?_
                      clear CR
                      rintro e w6 ⟨rfl, h⟩
                      have S6 := Lib.hid h
                      clear h
                      go_wp2
                      go_roundg (mid - a)
                      case measure => omega
                      case rel => exact ⟨a, mid, lim2, decide (mr ≥ l8), ap, d5, rfl, rfl, (by first | rfl | go_num), congrArg Value.bool (decide_eq_decide.2 (by omega)), rfl, m1, by omega, Nat.le_refl _, by omega, hlim2, B5.out, S6.out, HE2.out⟩
                  · have hlf : ltc cf x y = false := by simpa using hlt
                    have HT := Lib.hid (ltc_t hlf hz)
                    have h87 : Hid ((decide (a > 0) && !ltc cf dp[a - 1]! dp[pv]!) = true) := by show _ = _; rw [H87.out, hlf]; rfl
                    have hnl : Hid (ltc cf dp[a - 1]! dp[pv]! = false) := by show _ = _; rw [HNL.out, hlf]
                    clear hlt hlf hz hx hy H87 HNL
                    go_wp2_with (fail)
                    refine lxX ?_; refine lxM (.int .i64 (a : Int)) rfl ?_; refine lxR (.tmp 81) (.int .i64 (a : Int)) (.bool true) (fun wx ρ hwx h0 hc => gtr_i rfl hgd ρ wx h0 (hc _)) ?_; refine lxM (.bool true) rfl ?_; refine lxM (fvOf f bs cb) rfl ?_; refine lxM (.slice (some ⟨g, 0, none⟩) n c) rfl ?_; refine lxM (.int .i64 (a : Int)) rfl ?_; refine lxR (.tmp 86) (.int .i64 (a : Int)) (.int .i64 (k : Int)) (fun wx ρ hwx h0 hc => bin_sub rfl _ 1 HAK.out (by omega) ρ wx h0 (hc _)) ?_; refine lxT (.tmp 85) (.tmp 87) (.slice (some ⟨g, 0, none⟩) n c) (.int .i64 (k : Int)) (.pointer (some ⟨g, k, none⟩)) (fun wx ρ hwx h0 h1 hc => idx_i rfl hkn ρ wx h0 h1) ?_; refine lxR (.tmp 88) (.pointer (some ⟨g, k, none⟩)) (iV x) (fun wx ρ hwx h0 hc => load_i rfl ρ (CX.out wx hwx) h0) ?_; refine lxM (.slice (some ⟨g, 0, none⟩) n c) rfl ?_; refine lxM (.int .i64 (pv : Int)) rfl ?_; refine lxT (.tmp 90) (.tmp 91) (.slice (some ⟨g, 0, none⟩) n c) (.int .i64 (pv : Int)) (.pointer (some ⟨g, pv, none⟩)) (fun wx ρ hwx h0 h1 hc => idx_i rfl hpvn ρ wx h0 h1) ?_; refine lxR (.tmp 92) (.pointer (some ⟨g, pv, none⟩)) (iV y) (fun wx ρ hwx h0 hc => load_i rfl ρ (CY.out wx hwx) h0) ?_
                    refine wpL_val (.int .i64 z) [iV x, iV y] (by kernel_rfl) (by kernel_rfl) rfl (by kernel_rfl) (by kernel_rfl) (by kernel_rfl) (by kernel_rfl) ENT.out (fun wx hwx => ASK.out wx hwx) ?_
                    refine lxR (.tmp 94) (.int .i64 z) (.bool false) (fun wx ρ hwx h0 hc => lss_i rfl HT.out ρ wx h0 (hc _)) ?_; refine lxR (.tmp 95) (.bool false) (.bool true) (fun wx ρ hwx h0 hc => not_b rfl rfl ρ wx h0) ?_; refine lxB (.tmp 83) (.tmp 96) (.bool true) (.bool true) (.bool true) ?_
                    refine wpL_end (by kernel_rfl) (fun w1 hw1 => ?_)
                    simp only [FinL, setL, List.set_cons_zero, List.set_cons_succ]
                    have S4 := Lib.hid (S3.out.later hw1)
                    clear hgd ASK CX CY HT S3
                    obtain ⟨⟨mid, d4⟩, hpx⟩ : ∃ x, x = Sort.partitionEqual (ltc cf) dp a b pv := ⟨_, rfl⟩
                    have PP := Lib.hid (KE.out _ _ S4.out a b pv hpa hpb hbn)
                    rw [← hpx] at PP
                    obtain ⟨m1, m2, m3, m4, _⟩ := Sort.round_eq HO.out (Sort.partitionEqual_holds (ltc cf)) (by have := HAK.out; omega) hpa hpb (by rw [S4.out.size]; exact hbn) BP.out hnl.out hpx.symm
                    have M4 := Lib.hid m4
                    have HE2 : Hid (Sort.pdq (ltc cf) d4 mid b lim2 wb wp = R) := by
                      have e := HEQP.out h87.out
                      rw [← hpx] at e
                      rw [← HLIM.out]
                      exact (e ⟨m1, m2⟩).symm
                    clear hpx m3 m4 h87 hnl HPART HEQP S4
                    go_wp2_with (fail)
                    refine PP.out.mono ?_
                    clear PP
                    rintro e w5 ⟨rfl, h⟩
                    have S5 := Lib.hid h
                    clear h
                    go_wp2
                    go_roundg (b - mid)
                    case measure => omega
                    case rel => exact ⟨mid, b, lim2, wb, wp, d4, (by first | rfl | go_num), rfl, (by first | rfl | go_num), rfl, rfl, m2, hbn, Nat.le_refl _, by omega, hlim2, M4.out, S5.out, HE2.out⟩
theorem pdq_any (K : Cmp f bs cb cf Ok B w0 Ts) (hO : Sort.SWO (ltc cf)) (hn : n ≤ 100000) (m : Nat) : PdqAt f bs cb cf Ok B w0 Ts g n c Rs m := by
  induction m using Nat.strongRecOn with
  | _ m ih => exact pdq_step K hO hn m ih
end
end Srt
end Go.Proofs.YtmdphcebmgcdbaaGreat
end
section
namespace Go.Proofs.YtmdphcebmgcdbaaGreat
open Go.RowKit Go.Own
namespace Srt
section
variable {f : FuncId} {bs cb : Array Value} {cf : Nat → Nat → Int} {Ok : Nat → Prop} {B : Nat} {w0 w : World} {Ts Rs : List Asn} {g n c : Nat} {d : Array Nat}
set_option maxHeartbeats 1600000 in
theorem sort_some (K : Cmp f bs cb cf Ok B w0 Ts) (hO : Sort.SWO (ltc cf)) (hn : n ≤ 100000) (S : Sd Ok B w0 Ts g n c Rs w d) :
    Calls Tryz.prog 29 #[.slice (some ⟨g, 0, none⟩) n c, fvOf f bs cb] w fun e w' => e = .returned (.tuple #[]) ∧ ∃ d', Sd Ok B w0 Ts g n c Rs w' d' ∧ Sort.PermIn 0 n d d' ∧ Sort.SortedIn (ltc cf) 0 n d' := by
  have hl : Lib.bitLen n ≤ 1000 := Nat.le_trans (Lib.bitLen_le n 17 (by omega) (by omega)) (by decide)
  obtain ⟨l, hle⟩ : ∃ l, l = Lib.bitLen n := ⟨_, rfl⟩
  rw [← hle] at hl
  have LC := Lib.hid (len_any n hn)
  rw [← hle] at LC
  have HS := Lib.hid S
  have PC := Lib.hid (pdq_any (Rs := Rs) (g := g) (c := c) K hO hn n)
  have hb0 : Sort.Below (ltc cf) 0 n d := .inl rfl
  have HB := Lib.hid hb0
  have FIN := Lib.hid (Sort.pdq_sorts (ltc cf) hO d 0 n l true true (Nat.zero_le _) (by rw [S.size]; exact Nat.le_refl _) hb0)
  clear S K hO hle hb0
  go_enter Tryz.func29, Tryz.ntmps29
  go_wp2_with (fail)
  refine (LC.out _).mono ?_
  clear LC
  rintro e w1 ⟨rfl, rfl⟩
  go_wp2_with (fail)
  refine (PC.out _ d 0 n l HS.out (Nat.zero_le _) (Nat.le_refl _) (by omega) hl HB.out).mono ?_
  rintro e w2 ⟨rfl, h⟩
  have H2 := Lib.hid h
  clear h
  go_wp2
  go_end0
  exact ⟨rfl, _, H2.out, FIN.out⟩
end
set_option maxHeartbeats 1600000 in
theorem insertion_none (ao : Option Addr) (cap : Nat) (fv : Value) (w : World) : Calls Tryz.prog 77 #[.slice ao 0 cap, .int .i64 0, .int .i64 0, fv] w fun e w' => e = .returned (.tuple #[]) ∧ w' = w := by
  go_enter Tryz.func77, Tryz.ntmps77
  go_wp2
  go_loopw [8] (fun v8 wr => v8 = .int .i64 1 ∧ wr = w) (fun _ _ => 0)
  case atStart => exact ⟨rfl, rfl⟩
  case round =>
    obtain ⟨rfl, rfl⟩ := hrel
    go_wp2
    go_end0
    exact ⟨rfl, rfl⟩
set_option maxHeartbeats 1600000 in
theorem pdq_none (ao : Option Addr) (cap : Nat) (l : Nat) (fv : Value) (w : World) : Calls Tryz.prog 49 #[.slice ao 0 cap, .int .i64 0, .int .i64 0, .int .i64 (l : Int), fv] w fun e w' => e = .returned (.tuple #[]) ∧ w' = w := by
  have CC := Lib.hid (insertion_none ao cap fv)
  go_enter Tryz.func49, Tryz.ntmps49
  go_wp2
  go_loopw [1, 2] (fun v1 v2 wr => v1 = .int .i64 0 ∧ v2 = .int .i64 0 ∧ wr = w) (fun _ _ _ => 0)
  case atStart => exact ⟨rfl, rfl, rfl⟩
  case round =>
    obtain ⟨rfl, rfl, rfl⟩ := hrel
    go_wp2_with (fail)
    refine (CC.out _).mono ?_
    rintro e w1 ⟨rfl, rfl⟩
    go_wp2
    refine bodyPost_ret (results_none rfl _ _ _) rfl ?_
    exact ⟨rfl, rfl⟩
set_option maxHeartbeats 1600000 in
theorem sort_none (ao : Option Addr) (cap : Nat) (fv : Value) (w : World) : Calls Tryz.prog 29 #[.slice ao 0 cap, fv] w fun e w' => e = .returned (.tuple #[]) ∧ w' = w := by
  have LC := Lib.hid (len_any 0 (by omega))
  have PC := Lib.hid (pdq_none ao cap (Lib.bitLen 0) fv)
  go_enter Tryz.func29, Tryz.ntmps29
  go_wp2_with (fail)
  refine (LC.out _).mono ?_
  rintro e w1 ⟨rfl, rfl⟩
  go_wp2_with (fail)
  refine (PC.out _).mono ?_
  rintro e w2 ⟨rfl, rfl⟩
  go_wp2
  go_end0
  exact ⟨rfl, rfl⟩
end Srt
end Go.Proofs.YtmdphcebmgcdbaaGreat
end
section
namespace Go.Proofs.YtmdphcebmgcdbaaGreat
open Go.RowKit Go.Own
namespace Tba
open Go.TabM Tab
def leS (rows : List Sg) (i j : Nat) : Prop := (at_ rows i).seq < (at_ rows j).seq ∨ ((at_ rows i).seq = (at_ rows j).seq ∧ i ≤ j)
theorem leS_antisymm {rows : List Sg} {i j : Nat} (h1 : leS rows i j) (h2 : leS rows j i) : i = j := by
  unfold leS at h1 h2
  omega
theorem seqLt (rows : List Sg) (i j : Nat) : Srt.ltc (seqCmp rows) i j = decide ((at_ rows i).seq < (at_ rows j).seq ∨ ((at_ rows i).seq = (at_ rows j).seq ∧ i < j)) := by
  unfold Srt.ltc seqCmp orI cmpN
  by_cases h1 : (at_ rows i).seq < (at_ rows j).seq
  · simp [h1]
  · by_cases h2 : (at_ rows j).seq < (at_ rows i).seq
    · have h3 : ¬ (at_ rows i).seq = (at_ rows j).seq := by omega
      simp [h1, h2, h3]
    · have h3 : (at_ rows i).seq = (at_ rows j).seq := by omega
      by_cases h4 : i < j
      · simp [h3, h4]
      · by_cases h5 : j < i <;> simp [h3, h4, h5]
theorem seq_swo (rows : List Sg) : Sort.SWO (Srt.ltc (seqCmp rows)) where
  irrefl x := by rw [seqLt]; simp
  trans x y z h1 h2 := by rw [seqLt] at *; simp at *; omega
  ntrans x y z h1 h2 := by rw [seqLt] at *; simp at *; omega
theorem seq_not (rows : List Sg) {i j : Nat} (h : Srt.ltc (seqCmp rows) i j = false) : leS rows j i := by
  rw [seqLt] at h
  unfold leS
  simp at h
  omega
theorem ins_cons (rows : List Sg) (j : Nat) (l : List Nat) (i : Nat) : ins rows (j :: l) i = if (at_ rows j).seq ≤ (at_ rows i).seq then j :: ins rows l i else i :: j :: l := by
  unfold ins
  rw [aheadN]
  by_cases h : (at_ rows j).seq ≤ (at_ rows i).seq
  · rw [if_pos h, if_pos h, List.take_succ_cons, List.drop_succ_cons, List.cons_append]
  · rw [if_neg h, if_neg h]; rfl
theorem ins_perm (rows : List Sg) : ∀ (l : List Nat) (i : Nat), (ins rows l i).Perm (i :: l)
  | [], i => List.Perm.refl _
  | j :: l, i => by
    rw [ins_cons]
    split
    · exact ((ins_perm rows l i).cons j).trans (List.Perm.swap i j l)
    · exact List.Perm.refl _
theorem ins_sorted (rows : List Sg) : ∀ (l : List Nat) (i : Nat), l.Pairwise (leS rows) → (∀ j ∈ l, j < i) → (ins rows l i).Pairwise (leS rows)
  | [], i, _, _ => by
    show [i].Pairwise _
    exact List.pairwise_singleton _ _
  | j :: l, i, h, hlt => by
    rw [List.pairwise_cons] at h
    have hji := hlt j List.mem_cons_self
    rw [ins_cons]
    by_cases hs : (at_ rows j).seq ≤ (at_ rows i).seq
    · rw [if_pos hs, List.pairwise_cons]
      refine ⟨fun y hy => ?_, ins_sorted rows l i h.2 (fun k hk => hlt k (List.mem_cons_of_mem _ hk))⟩
      rcases ins_mem hy with rfl | hy
      · unfold leS; omega
      · exact h.1 y hy
    · rw [if_neg hs, List.pairwise_cons, List.pairwise_cons]
      refine ⟨fun y hy => ?_, h.1, h.2⟩
      rcases List.mem_cons.1 hy with rfl | hy
      · unfold leS; omega
      · have := h.1 y hy
        unfold leS at this ⊢
        omega
theorem sealedF_perm (rows : List Sg) : ∀ (l : List Sg) (acc : List Nat) (i : Nat), (sealedF rows acc i l).Perm (acc ++ allF 2 i l)
  | [], acc, i => by simp [sealedF, allF]
  | s :: l, acc, i => by
    unfold sealedF allF
    by_cases h : s.kind = 2
    · rw [if_pos h, if_pos h]
      exact (sealedF_perm rows l _ (i + 1)).trans (((ins_perm rows acc i).append_right _).trans (List.perm_middle.symm))
    · rw [if_neg h, if_neg h]
      exact sealedF_perm rows l acc (i + 1)
theorem sealedF_sorted (rows : List Sg) : ∀ (l : List Sg) (acc : List Nat) (i : Nat), acc.Pairwise (leS rows) → (∀ j ∈ acc, j < i) → (sealedF rows acc i l).Pairwise (leS rows)
  | [], acc, i, h, _ => h
  | s :: l, acc, i, h, hlt => by
    unfold sealedF
    by_cases hs : s.kind = 2
    · rw [if_pos hs]
      refine sealedF_sorted rows l _ (i + 1) (ins_sorted rows acc i h hlt) (fun j hj => ?_)
      rcases ins_mem hj with rfl | hj
      · exact Nat.lt_succ_self _
      · exact Nat.lt_succ_of_lt (hlt j hj)
    · rw [if_neg hs]
      exact sealedF_sorted rows l acc (i + 1) h (fun j hj => Nat.lt_succ_of_lt (hlt j hj))
theorem sealed_perm (t : T) : (sealedL t).Perm (allL 2 t) := sealedF_perm t.rows t.rows [] 0
theorem sealed_sorted (t : T) : (sealedL t).Pairwise (leS t.rows) := sealedF_sorted t.rows t.rows [] 0 List.Pairwise.nil (fun _ h => by cases h)
theorem sorted_pair {rows : List Sg} {n : Nat} {d : Array Nat} (hn : d.size = n) (h : Sort.SortedIn (Srt.ltc (seqCmp rows)) 0 n d) : d.toList.Pairwise (leS rows) := by
  rw [List.pairwise_iff_getElem]
  intro i j hi hj hij
  have hi' : i < d.size := by simpa using hi
  have hj' : j < d.size := by simpa using hj
  have := seq_not rows (h i j (Nat.zero_le _) hij (by omega))
  rw [getElem!_pos d i hi', getElem!_pos d j hj'] at this
  simpa using this
theorem sealed_eq {t : T} {d d' : Array Nat} {n : Nat} (hd : d.toList = allL 2 t) (hn : d.size = n) (hp : Sort.PermIn 0 n d d') (hs : Sort.SortedIn (Srt.ltc (seqCmp t.rows)) 0 n d') : d'.toList = sealedL t := by
  obtain ⟨hsz, _, hperm⟩ := hp
  have e1 : d'.extract 0 n = d' := by rw [← hn, ← hsz]; exact Array.extract_size
  have e2 : d.extract 0 n = d := by rw [← hn]; exact Array.extract_size
  rw [e1, e2, hd] at hperm
  exact List.Perm.eq_of_pairwise (fun a b _ _ h1 h2 => leS_antisymm h1 h2) (sorted_pair (hsz.trans hn) hs) (sealed_sorted t) (hperm.trans (sealed_perm t).symm)
theorem enters38 (args : Array Value) (w : World) : (callFunc 30 args).run Tryz.prog w = .ok (.enter 30 args) w := by simp [go_sem]
section
variable {B : Nat} {w0 w : World} {Ps : List Asn} {p : Nat} {v : Value} {t : T} {N : Nat}
theorem cmpK (H : Own.St B w0 w (AT p v t :: Ps)) : Srt.Cmp 30 #[ptr p] #[] (seqCmp t.rows) (fun i => i < t.rows.length) w.heap.size w [] where
  ent := enters38
  ask := fun hs x y hx hy => bySeq_any (H.later hs.below) x y hx hy
  low := fun x y => by unfold seqCmp orI cmpN; split <;> (try split) <;> (try split) <;> (try split) <;> omega
set_option maxHeartbeats 4000000 in
theorem sealed_any (H : Own.St B w0 w (AT p v t :: Ps)) (ok : Ok t N) : Calls Tryz.prog 11 #[ptr p] w fun e w' => ∃ ao c, e = .returned (.slice ao (sealedL t).length c) ∧ Own.St w.heap.size w w' [RowI (.slice ao (sealedL t).length c) (sealedL t) (sealedL t).length] := by
  have CC := Lib.hid (all_any H ok 2 (by decide))
  have HH := Lib.hid H
  have hlen : (allL 2 t).length ≤ 256 := by unfold allL; rw [allF_len]; exact Nat.le_trans List.countP_le_length ok.len
  obtain ⟨L, hL⟩ : ∃ L, L = allL 2 t := ⟨_, rfl⟩
  have HLT : Hid (∀ x ∈ L, x < t.rows.length) := fun x hx => (all_lt (by rw [← hL]; exact hx)).1
  rw [← hL] at CC hlen
  have hsl : (sealedL t).length = L.length := by rw [hL]; exact (sealed_perm t).length_eq
  obtain ⟨n, hn⟩ : ∃ n, n = L.length := ⟨_, rfl⟩
  rw [hsl, ← hn]
  rw [← hn] at CC hlen
  have HL := Lib.hid hL
  have HN := Lib.hid hn
  have SS : Hid (∀ (w1 : World) (ao : Option Addr) (c : Nat), Own.St w.heap.size w w1 [RowI (.slice ao n c) L n] →
      Calls Tryz.prog 29 #[.slice ao n c, .func (.func 30) #[ptr p] #[]] w1 fun e w' => e = .returned (.tuple #[]) ∧ Own.St w.heap.size w w' [RowI (.slice ao n c) (sealedL t) n]) := by
    intro w1 ao c h1
    by_cases h0 : n = 0
    · have hL0 : L = [] := List.eq_nil_of_length_eq_zero (by rw [← HN.out]; exact h0)
      have hs0 : sealedL t = L := by
        rw [hL0]
        exact List.eq_nil_of_length_eq_zero (by rw [hsl, hL0]; rfl)
      rw [hs0]
      subst h0
      exact (Srt.sort_none ao c _ w1).mono fun e w' h => ⟨h.1, by rw [h.2]; exact h1⟩
    · obtain ⟨g, hg, _, _, _⟩ := h1.rowAt 0 rfl 0 (by omega)
      cases hg
      have S0 : Srt.Sd (fun i => i < t.rows.length) w.heap.size w [] g n c [] w1 L.toArray := by
        refine ⟨h1, by simp; exact HN.out.symm, fun i hi => ?_⟩
        have hil : i < L.toArray.size := by simp; rw [← HN.out]; exact hi
        rw [getElem!_pos _ i hil]
        exact HLT.out _ (by simp)
      refine (Srt.sort_some (cmpK HH.out) (seq_swo t.rows) (by omega) S0).mono ?_
      rintro e w' ⟨rfl, d', hS, hp, hs⟩
      refine ⟨rfl, ?_⟩
      have e := sealed_eq (by simpa using HL.out) (by simp; exact HN.out.symm) hp hs
      have h := hS.st
      rw [e] at h
      exact h
  clear H ok hL hn hsl HLT HL HN HH
  go_enter Tryz.func11, Tryz.ntmps11
  go_wp2_with (fail)
  refine CC.out.mono ?_
  clear CC
  rintro e w1 ⟨ao, c, rfl, h⟩
  have S1 := Lib.hid (SS.out w1 ao c h)
  clear h SS
  go_wp2_with (fail)
  refine S1.out.mono ?_
  clear S1
  rintro e w2 ⟨rfl, h⟩
  have H2 := Lib.hid h
  clear h
  go_wp2
  go_ret
  exact ⟨ao, c, rfl, H2.out⟩
theorem nilSealed (w : World) : Calls Tryz.prog 11 #[.pointer none] w fun e w' => ∃ ao cap, e = .returned (.slice ao 0 cap) ∧ Below w.heap.size w w' := by
  go_enter Tryz.func11, Tryz.ntmps11
  go_wp2_with (fail)
  refine (nilAll 2 w).mono ?_
  rintro e w' ⟨rfl, rfl⟩
  go_wp2_with (fail)
  refine (Srt.sort_none none 0 _ _).mono ?_
  rintro e w' ⟨rfl, rfl⟩
  go_wp2
  go_ret
  exact ⟨none, 0, rfl, Below.refl _ _⟩
end
end Tba
end Go.Proofs.YtmdphcebmgcdbaaGreat
end
section
namespace Go.Proofs.YtmdphcebmgcdbaaGreat
open Go.RowKit Go.Own
namespace Tba
open Go.TabM Tab
section
variable {B : Nat} {w0 w : World} {Ps : List Asn} {p : Nat} {t : T} {N : Nat}
theorem A_of {v : Value} (h : Own.St B w0 w (AT p v t :: Ps)) : Own.St B w0 w (A p t :: Ps) := Own.St.closeE v h
theorem A_to (h : Own.St B w0 w (A p t :: Ps)) : ∃ v, Own.St B w0 w (AT p v t :: Ps) := Own.St.openE h
theorem rowI_rd {w' : World} {l : List Nat} {ao : Option Addr} {c : Nat} (h : Own.St w.heap.size w w' [RowI (.slice ao l.length c) l l.length]) : RdRow w' (.slice ao l.length c) l.length (l.map iV) := rd_own h 0 rfl
end
end Tba
namespace Tab
open Go.TabM Tba
noncomputable def kept (W : World) : Kept W where
  A := Tba.A
  new := fun num _ H hn => (new_any H num hn).mono fun e w' h => by
    by_cases hm : mayBe num = true
    · rw [if_pos hm] at h ⊢
      obtain ⟨q, v, h1, h2⟩ := h
      exact ⟨q, h1, A_of h2⟩
    · rw [if_neg hm] at h ⊢
      obtain ⟨h1, rfl⟩ := h
      exact ⟨h1, H⟩
  open_ := fun _ H ok hN => by
    obtain ⟨v, h⟩ := A_to H
    exact (open_any h ok (by omega)).mono fun e w' h => ⟨h.1, A_of h.2⟩
  seal_ := fun _ H ok _ => by
    obtain ⟨v, h⟩ := A_to H
    exact (seal_any h ok).mono fun e w' h => ⟨h.1, A_of h.2⟩
  cur := fun _ H ok _ => by
    obtain ⟨v, h⟩ := A_to H
    exact cur_any h ok
  sealed := fun _ H ok _ => by
    obtain ⟨v, h⟩ := A_to H
    exact (sealed_any h ok).mono fun e w' h => by
      obtain ⟨ao, c, h1, h2⟩ := h
      exact ⟨_, h1, rowI_rd h2, h2.below⟩
  sealedOwn := fun _ H ok _ => by
    obtain ⟨v, h⟩ := A_to H
    exact (sealed_any h ok).mono fun e w' h => by
      obtain ⟨ao, c, h1, h2⟩ := h
      exact ⟨ao, c, h1, H.adoptNew h2⟩
  rows := fun _ H ok _ => by
    obtain ⟨v, h⟩ := A_to H
    exact (rows_any h ok).mono fun e w' h => by
      obtain ⟨ao, c, h1, h2, h3⟩ := h
      exact ⟨ao, c, h1, (A_of h2.swap2).swap2, h3⟩
  next := fun _ H ok _ => by
    obtain ⟨v, h⟩ := A_to H
    exact next_any h
  nilOpen := Tba.nilOpen
  nilSeal := Tba.nilSeal
  nilCur := fun w => (Tba.nilCur w).mono fun _ _ h => ⟨h.1, h.2 ▸ Below.refl _ _⟩
  nilSealed := Tba.nilSealed
  nilRows := Tba.nilRows
  nilNext := Tba.nilNext
end Tab
end Go.Proofs.YtmdphcebmgcdbaaGreat
end
section
namespace Go.Proofs.YtmdphcebmgcdbaaGreat
open Go.RowKit Go.Own
namespace Fla
open Go.FlaM Byt
theorem info_page (l : Bs) (h : l.length = 128) : (Tryz.prog.info? 124).map (·.size) = some (l.map byteV).toArray.size := by
  have e : (l.map byteV).toArray.size = 128 := by simp [h]
  have h0 : (Tryz.prog.info? 124).map (fun i => i.size) = some 128 := by kernel_rfl
  rw [e]
  exact h0
theorem info_pageL (l : Bs) (h : l.length = 128) : (Tryz.prog.info? 124).map (·.size) = some (l.map byteV).length := by
  have h0 : (Tryz.prog.info? 124).map (fun i => i.size) = some 128 := by kernel_rfl
  rw [List.length_map, h]
  exact h0
theorem wpList_allocZ {P : Program} {ops : Array Oper} {rest : List Oper} {o : Oper} {a : Act} {w : World} {Q : Exit → Act → World → Prop} (hgd : o.guard = none) (ty : TypeId) (ho : o.op = .alloc ty) (z : Array Value) (hz : (P.info? ty).bind (·.zero) = some (.agg z))
    (h : wpList P ops Q rest (a.put o.dst (.pointer (some ⟨w.heap.size, 0, none⟩))) (w.alloc (.cells z ty))) : wpList P ops Q (o :: rest) a w := by
  refine wpList_plain hgd fun K hK => ?_
  obtain ⟨i, hi, hi2⟩ := Option.bind_eq_some_iff.1 hz
  unfold Oper.wp
  simp [execOp, ho, Instr.alloc, zeroValue, typeInfo, hi, hi2, Result.andThen]
  exact hK _ _ h
theorem zero_page : (Tryz.prog.info? 124).bind (·.zero) = some (.agg ((List.replicate 128 (0 : UInt8)).map byteV).toArray) := by kernel_rfl
set_option maxRecDepth 10000 in
set_option maxHeartbeats 4000000 in
theorem erased_st {B : Nat} {w0 w : World} {Ps : List Asn} (H : Own.St B w0 w Ps) : Calls Tryz.prog 58 #[] w fun e w' => e = .returned (.agg (FlaM.blank.map byteV).toArray) ∧ Own.St B w0 w' Ps := by
  obtain ⟨bl, hbl⟩ : ∃ b, b = FlaM.blank := ⟨_, rfl⟩
  rw [← hbl]
  have HBL : Hid (bl.length = 128) := by show bl.length = 128; rw [hbl]; exact blank_len
  have HRE : Hid (List.replicate 128 255 = bl) := by show List.replicate 128 255 = bl; rw [hbl]; rfl
  clear hbl
  have hst := A8.box (A8.box H 124 (List.replicate 128 0)) 124 (List.replicate 128 0)
  simp only [size_alloc'] at hst
  obtain ⟨z, hz⟩ : ∃ z, z = ((List.replicate 128 (0 : UInt8)).map byteV).toArray := ⟨_, rfl⟩
  have ZP : Hid ((Tryz.prog.info? 124).bind (·.zero) = some (.agg z)) := by rw [hz]; exact zero_page
  rw [← hz] at hst
  clear hz
  go_enter Tryz.func58, Tryz.ntmps58
  go_wp2_with (first
    | (refine Fla.wpList_allocZ rfl 124 rfl z ZP.out ?_))
  generalize (w.alloc (.cells z 124)).alloc (.cells z 124) = W1 at hst ⊢
  obtain ⟨br, hbr⟩ : ∃ b, b = w.heap.size := ⟨_, rfl⟩
  obtain ⟨bc, hbc⟩ : ∃ b, b = w.heap.size + 1 := ⟨_, rfl⟩
  rw [← hbc, ← hbr] at hst
  rw [← hbc, ← hbr]
  have HST := Lib.hid hst
  clear hst hbr hbc
  go_loopw [3] (fun v wr => ∃ k : Nat, k ≤ 128 ∧ v = .int .i64 (k : Int) ∧ Own.St B w0 wr (A8 bc 124 (ones 255 128 k) :: A8 br 124 (List.replicate 128 0) :: Ps)) (fun v _ => 128 - (intOf v).toNat)
  case atStart => exact ⟨0, Nat.zero_le _, rfl, by rw [ones_zero]; exact HST.out⟩
  case round =>
    obtain ⟨k, hk128, rfl, H⟩ := hrel
    have H := Lib.hid H
    clear HST
    by_cases hk : (k : Int) < 128
    · have hkn : k < 128 := by omega
      obtain ⟨cc, cf⟩ := A8.cell H.out 0 rfl k (by unfold ones; simp; omega)
      have PUT : Hid (Own.St B w0 (wr.setCell ⟨bc, k, none⟩ (.int .u8 255)) (A8 bc 124 (ones 255 128 (k + 1)) :: A8 br 124 (List.replicate 128 0) :: Ps)) := by
        have h := A8.store H.out 0 rfl k 255
        simp only [List.set_cons_zero] at h
        rw [ones_set 255 128 k hkn] at h
        exact h
      clear H
      go_wp2
      go_roundw
      case rel => exact ⟨k + 1, by omega, by go_num, PUT.out⟩
      case measure => simp [intOf]; omega
    · have H2 : Hid (Own.St B w0 wr (A8 bc 124 bl :: A8 br 124 (List.replicate 128 0) :: Ps)) := by
        have h := H.out
        rw [show k = 128 by omega, ones_all, HRE.out] at h
        exact h
      have ROW := Lib.hid (A8.row H2.out 0 rfl)
      have THERE := Lib.hid (A8.there H2.out 1 rfl bl (by rw [HBL.out]; rfl))
      have IB := Lib.hid (info_page _ HBL.out)
      have OB := Lib.hid (one8 bl)
      have LAST := Lib.hid (A8.setAll H2.out 1 rfl bl (by rw [HBL.out]; rfl))
      clear H hk128 HRE HBL
      go_wp2_with (first
        | (refine wpList_load_row rfl 124 (.tmp 1) rfl bc rfl 124 _ (0, 0) _ ROW.out Tryz.underlying124 rfl IB.out ?_)
        | (refine wpList_store_mid rfl 124 (.tmp 0) (.tmp 9) rfl br 0 (bl.map byteV).toArray rfl rfl THERE.out IB.out OB.out ?_))
      have END := Lib.hid (A8.row LAST.out 1 rfl)
      refine bodyPost_ret (results_cell_row rfl _ _ br 124 _ (0, 0) _ rfl END.out Tryz.underlying124 rfl IB.out) rfl ?_
      exact ⟨rfl, LAST.out.drop 2⟩
theorem wipe_cells {row : List Bs} (h : Wide row) (k : Nat) (hk : k < row.length) : ((wipeTo row (k + 1)).flatten.map byteV) = ((wipeTo row k).flatten.map byteV).take (k * 128) ++ FlaM.blank.map byteV ++ ((wipeTo row k).flatten.map byteV).drop (k * 128 + 128) := by
  have hl := wipeTo_len row k
  show (((wipeTo row k).set k FlaM.blank).flatten.map byteV) = _
  rw [flat_set k FlaM.blank (wide_wipe h k) (by omega), List.map_append, List.map_append, List.map_take, List.map_drop, show (k + 1) * 128 = k * 128 + 128 by omega]
set_option maxRecDepth 10000 in
set_option maxHeartbeats 4000000 in
theorem wipe_st {B : Nat} {w0 w : World} {Ps : List Asn} {r : Option Addr × Nat} {row : List Bs} (H : Own.St B w0 w (pRow 124 r row :: Ps)) (hw : Wide row) (m : Nat) (hm : m ≤ row.length) (hb : row.length ≤ 64) :
    Calls Tryz.prog 35 #[.slice r.1 m r.2] w fun e w' => e = .returned (.tuple #[]) ∧ Own.St B w0 w' (pRow 124 r (wipeTo row m) :: Ps) := by
  obtain ⟨ao, cap⟩ := r
  obtain ⟨bl, hbl⟩ : ∃ b, b = FlaM.blank := ⟨_, rfl⟩
  have HBL : Hid (bl.length = 128) := by show bl.length = 128; rw [hbl]; exact blank_len
  have HEQ := Lib.hid hbl
  clear hbl
  have HST := Lib.hid H
  have HW := Lib.hid hw
  have hlen := H.rowLen 0 rfl
  have HL := Lib.hid hlen
  have hm64 : m ≤ 64 := by omega
  clear H hw hlen
  go_enter Tryz.func35, Tryz.ntmps35
  go_wp2
  go_loopw [5] (fun v wr => ∃ k : Nat, k ≤ m ∧ v = .int .i64 (k : Int) ∧ Own.St B w0 wr (pRow 124 (ao, cap) (wipeTo row k) :: Ps)) (fun v _ => m - (intOf v).toNat)
  case atStart => exact ⟨0, Nat.zero_le _, rfl, HST.out⟩
  case round =>
    obtain ⟨k, hkm, rfl, H⟩ := hrel
    have H := Lib.hid H
    clear HST
    by_cases hk : (k : Int) < (m : Int)
    · have hkn : k < m := by omega
      have ce := erased_st H.out
      rw [← HEQ.out] at ce
      have CE := Lib.hid ce
      clear ce
      go_wp2_with (fail)
      refine CE.out.mono ?_
      clear CE
      rintro e w1 ⟨rfl, h1⟩
      have hl2 := wipeTo_len row k
      obtain ⟨g, rfl, _, _, _⟩ := h1.rowAt 0 rfl (k * 128) (by omega)
      have H1 := Lib.hid h1
      have hlen := (h1.rowLen 0 rfl)
      clear h1
      have THERE : Hid (w1.there g (k * 128) (bl.map byteV).toArray.size) := by
        intro j hj
        have hj2 : j < 128 := by simpa [HBL.out] using hj
        have hjn : k * 128 + j < (wipeTo row k).length * 128 := by omega
        obtain ⟨c1, c2⟩ := H1.out.rowRange 0 rfl (k * 128 + j) hjn
        refine ⟨?_, c2⟩
        rw [c1, List.getElem?_eq_getElem (by omega)]
        rfl
      have PUT : Hid (Own.St B w0 (w1.setCells g (k * 128) (bl.map byteV).toArray.toList) (pRow 124 (some ⟨g, 0, none⟩, cap) (wipeTo row (k + 1)) :: Ps)) := by
        have h := St.rowCells 0 (bl.map byteV) (k * 128) w1 _ _ H1.out rfl (by simp [HBL.out]; omega)
        simp only [List.set_cons_zero, List.length_map, HBL.out] at h
        rw [HEQ.out, ← wipe_cells HW.out k (by omega), ← HEQ.out] at h
        unfold pRow
        rw [wipeTo_len]
        rw [wipeTo_len] at h
        exact h
      have IB := Lib.hid (info_page _ HBL.out)
      have OB := Lib.hid (one8 bl)
      clear H H1 hlen
      go_wp2_with (refine wpList_store_mid rfl 124 (.tmp 11) (.tmp 10) rfl g (k * 128) (bl.map byteV).toArray rfl rfl THERE.out IB.out OB.out ?_)
      go_roundw
      case rel => exact ⟨k + 1, by omega, by go_num, PUT.out⟩
      case measure => simp [intOf]; omega
    · obtain rfl : k = m := by omega
      go_wp2
      go_end0
      exact ⟨rfl, H.out⟩
end Fla
end Go.Proofs.YtmdphcebmgcdbaaGreat
end
section
namespace Go.Own
open Go.RowKit
theorem step_row_copy {P : Program} {B : Nat} {w0 w : World} {Ps : List Asn} {t8 e8 : TypeId} (h8 : P.underlying t8 = some (.slice e8)) (i8 : (P.info? e8).map (·.size) = some 1) {ops : Array Oper} {o : Oper} {a : Act} {K : Act → World → Prop} {Q : Exit → Act → World → Prop} {E : Prop} (hgd : o.guard = none) (d s : Operand)
    (ho : o.op = .call { callee := .builtin .copy, args := #[d, s], argTypes := #[t8, t8] }) {g n cap size : Nat} {e : TypeId} {xs : List Value} (H : St B w0 w Ps) (i : Nat) (hi : Ps[i]? = some (ARow e size (.slice (some ⟨g, 0, none⟩) n cap) n xs)) (k dn dc : Nat) (hd : a.eval d = .slice (some ⟨g, k, none⟩) dn dc) (hk : k + dn ≤ n * size)
    (bo : Addr) (sn sc : Nat) (news : List UInt8) (hx : a.eval s = .slice (some bo) sn sc) (hl : news.length = min sn dn)
    (hc : ∀ j u, (news.map byteV)[j]? = some u → w.cell? (bo.add j) = some u)
    (h : ∀ w', St B w0 w' (Ps.set i (ARow e size (.slice (some ⟨g, 0, none⟩) n cap) n (xs.take k ++ news.map byteV ++ xs.drop (k + news.length)))) → K (a.put o.dst (goInt news.length)) w') :
    if Region.wanted o (yielded ops a.tmps) = true then Oper.wp P o a w K Q else E := by
  have hw : Region.wanted o (yielded ops a.tmps) = true := by simp [Region.wanted, hgd]
  rw [if_pos hw]
  have hset := St.rowCells i (news.map byteV) k w Ps xs H hi (by rw [List.length_map]; omega)
  rw [List.length_map] at hset
  have hlen := (H.rowLen i hi).1
  have hcells : ∀ j, j < (news.map byteV).length → (w.cell? ⟨g, k + j, none⟩).isSome = true ∧ w.frozen? ⟨g, k + j, none⟩ = false := by
    intro j hj
    rw [List.length_map] at hj
    obtain ⟨h1, h2⟩ := H.rowRange i hi (k + j) (by omega)
    refine ⟨?_, h2⟩
    rw [h1, List.getElem?_eq_getElem (by omega)]
    rfl
  have hrun := run_copy_cells (P := P) w t8 t8 o.type e8 g k dn dc bo sn sc (news.map byteV) h8 i8 (by rw [List.length_map, hl]) hc (fun j hj => (hcells j hj).1) (fun j hj => (hcells j hj).2) (byteV_one _)
  rw [List.length_map] at hrun
  unfold Oper.wp
  simp [execOp, ho, resolve, invoke, builtin, hd, hx, hrun, Result.andThen]
  exact h _ hset
end Go.Own
namespace Go.Proofs.YtmdphcebmgcdbaaGreat
open Go.RowKit Go.Own
namespace Fla
open Go.FlaM Byt
theorem getD_some {G : List (List Bs)} {n pp : Nat} (h : Shape G n pp) {i : Nat} (hi : i < n) : G[i]? = some (G.getD i []) := by
  have := h.len
  rw [List.getD_eq_getElem?_getD, List.getElem?_eq_getElem (by omega)]
  rfl
set_option maxRecDepth 10000 in
set_option maxHeartbeats 400000 in
theorem apply_erase {B : Nat} {w0 w : World} {Ps : List Asn} {v : Value} {G : List (List Bs)} {n pp : Nat} (H : Own.St B w0 w (PGrid 92 124 v G :: Ps)) (hs : Shape G n pp) (hn : n ≤ 256) (hp : 1 ≤ pp ∧ pp ≤ 64) (seg : Nat) (hseg : seg < n) (cs : List Value) (hc1 : cs[1]? = some (.int .i64 (seg : Int))) (hc0 : cs[0]? = some (.bool true)) (ext : Int) (he : i64B ext) :
    Calls Tryz.prog 73 #[.agg cs.toArray, v, .int .i64 ext] w fun e w' => e = .returned (.tuple #[]) ∧ Own.St B w0 w' (PGrid 92 124 v (clearTo G seg (min ext.toNat pp)) :: Ps) := by
  have hsome := getD_some hs hseg
  have HW := Lib.hid (wide_of hs seg hseg)
  have hrl := hs.rows seg hseg
  have hgl := hs.len
  have HCL := Lib.hid (clear_row G seg (min ext.toNat pp) (by omega))
  obtain ⟨row, hrow⟩ : ∃ r, r = G.getD seg [] := ⟨_, rfl⟩
  rw [← hrow] at hsome hrl HW HCL
  have hbox := (H.boxV 143 cs)
  have c0 := (hbox.cellV 0 rfl 0 hc0).1
  have c1 := (hbox.cellV 0 rfl 1 hc1).1
  obtain ⟨g, c, ⟨ao, cap⟩, Qs, rfl, cg, hR, put⟩ := (hbox.swap2).pRowAt seg row hsome
  have HR := Lib.hid hR
  have HPUT := Lib.hid put
  obtain ⟨n0, hn0⟩ : ∃ m, m = ext.toNat := ⟨_, rfl⟩
  obtain ⟨m, hm⟩ : ∃ m, m = min n0 pp := ⟨_, rfl⟩
  rw [← hn0, ← hm] at HCL ⊢
  have hrlen := hR.rowLen 0 rfl
  obtain ⟨b, rfl, _, _, _⟩ := hR.rowAt 0 rfl 0 (by omega)
  obtain ⟨l, hl⟩ : ∃ l, l = G.length := ⟨_, rfl⟩
  have hsl : seg < l := by omega
  have hl2 : l ≤ 256 := by omega
  rw [← hl] at HPUT ⊢
  obtain ⟨k, hk⟩ : ∃ k, k = row.length := ⟨_, rfl⟩
  have CG : Hid ((w.alloc (.cells cs.toArray 143)).cell? ⟨g, seg, none⟩ = some (.slice (some ⟨b, 0, none⟩) k cap)) := by rw [hk]; exact cg
  have cg2 := CG.out
  have hkp : k = pp := by omega
  have hkc : k ≤ cap := by omega
  have hmk : m ≤ k := by omega
  have hmc : m ≤ cap := by omega
  have HK := Lib.hid hk
  have hcapM : cap ≤ maxLen := hrlen.2.2.1
  have hn0b : n0 ≤ 9223372036854775807 := by have := he.2; omega
  have hmax : ∀ wx, (Builtin.max_ #[3, 3] 3 #[.int .i64 ext, .int .i64 0]).run Tryz.prog wx = .ok (.int .i64 (n0 : Int)) wx := by
    intro wx
    rw [show (n0 : Int) = max ext 0 by omega]
    simp [Builtin.max_, Builtin.max2, go_sem]
    try omega
  have hmin : ∀ wx, (Builtin.min_ #[3, 3] 3 #[.int .i64 (n0 : Int), .int .i64 (k : Int)]).run Tryz.prog wx = .ok (.int .i64 (m : Int)) wx := by
    intro wx
    rw [show (m : Int) = min (n0 : Int) (k : Int) by omega]
    simp [Builtin.min_, Builtin.min2, go_sem]
    try omega
  have CW := wipe_st hR HW.out m (by omega) (by omega)
  have CW2 := Lib.hid CW
  clear hbox hR put hsome hrl hgl hn0 hm hl hk cg CG hc0 hc1 H CW hrlen hrow HW HR hs he hkp
  unfold maxLen at hcapM
  go_enter Tryz.func73, Tryz.ntmps73
  go_wp2_with (fail)
  refine CW2.out.mono ?_
  rintro e w1 ⟨rfl, h1⟩
  have H1 := Lib.hid (HPUT.out w1 _ (wipeTo_len row m) h1)
  clear h1
  go_wp2
  refine bodyPost_ret (results_none rfl _ _ _) rfl ?_
  exact ⟨rfl, by rw [HCL.out]; exact H1.out.drop2⟩
theorem flat_cells {row : List Bs} (h : Wide row) (k : Nat) (hk : k < row.length) (b : Bs) (m : Nat) (hb : b.length = 128) (hm : m ≤ 128) :
    ((row.set k (b.take m ++ (row.getD k []).drop m)).flatten.map byteV) = (row.flatten.map byteV).take (k * 128) ++ (b.take m).map byteV ++ (row.flatten.map byteV).drop (k * 128 + m) := by
  rw [flat_set k _ h hk, List.map_append, List.map_append, List.map_append, ← flat_page k h hk]
  have hfl := flat_len h
  obtain ⟨D, hD⟩ : ∃ D, D = row.flatten.drop (k * 128) := ⟨_, rfl⟩
  have hDl : 128 ≤ D.length := by rw [hD, List.length_drop, hfl]; omega
  have e1 : row.flatten.drop (k * 128 + m) = D.drop m := by rw [hD, List.drop_drop]
  have e2 : row.flatten.drop ((k + 1) * 128) = D.drop 128 := by rw [hD, List.drop_drop, show k * 128 + 128 = (k + 1) * 128 by omega]
  have e3 : D.drop m = (D.take 128).drop m ++ D.drop 128 := by
    have h1 : (D.take 128 ++ D.drop 128).drop m = (D.take 128).drop m ++ D.drop 128 := List.drop_append_of_le_length (by rw [List.length_take]; omega)
    rw [List.take_append_drop] at h1
    exact h1
  rw [← hD, ← List.map_drop, e1, e2, e3, List.map_append, List.map_take]
  simp only [List.append_assoc]
set_option maxRecDepth 10000 in
set_option maxHeartbeats 800000 in
theorem apply_prog {B : Nat} {w0 w : World} {Ps : List Asn} {v : Value} {G : List (List Bs)} {n pp : Nat} (H : Own.St B w0 w (PGrid 92 124 v G :: Ps)) (hs : Shape G n pp) (hn : n ≤ 256) (hp : 1 ≤ pp ∧ pp ≤ 64) (seg page : Nat) (hseg : seg < n) (hpage : page < pp) (cs : List Value) (b : Bs) (hb : b.length = 128) (hc0 : cs[0]? = some (.bool false)) (hc1 : cs[1]? = some (.int .i64 (seg : Int))) (hc2 : cs[2]? = some (.int .i64 (page : Int))) (hc3 : ∀ j, j < 128 → cs[3 + j]? = some (byteV (b.getD j 0))) (ext : Int) (he : i64B ext) :
    Calls Tryz.prog 73 #[.agg cs.toArray, v, .int .i64 ext] w fun e w' => e = .returned (.tuple #[]) ∧ Own.St B w0 w' (PGrid 92 124 v (setPage G seg page (b.take (min ext.toNat 128) ++ (pageAt G seg page).drop (min ext.toNat 128))) :: Ps) := by
  have hsome := getD_some hs hseg
  have HW := Lib.hid (wide_of hs seg hseg)
  have hrl := hs.rows seg hseg
  have hgl := hs.len
  obtain ⟨row, hrow⟩ : ∃ r, r = G.getD seg [] := ⟨_, rfl⟩
  have HRW := Lib.hid hrow
  unfold pageAt setPage
  rw [← hrow] at hsome hrl HW ⊢
  have hbox := (H.boxV 143 cs)
  have c0 := (hbox.cellV 0 rfl 0 hc0).1
  have c1 := (hbox.cellV 0 rfl 1 hc1).1
  have c2 := (hbox.cellV 0 rfl 2 hc2).1
  have CB := Lib.hid (fun (j : Nat) (hj : j < 128) => (hbox.cellV 0 rfl (3 + j) (hc3 j hj)).1)
  obtain ⟨g, c, ⟨ao, cap⟩, Qs, rfl, cg, hR, put⟩ := (hbox.swap2).pRowAt seg row hsome
  have HPUT := Lib.hid put
  obtain ⟨n0, hn0⟩ : ∃ m, m = ext.toNat := ⟨_, rfl⟩
  obtain ⟨m, hm⟩ : ∃ m, m = min n0 128 := ⟨_, rfl⟩
  rw [← hn0, ← hm]
  have hrlen := hR.rowLen 0 rfl
  obtain ⟨bb, rfl, h1x, h2x, h3x⟩ := hR.rowAt 0 rfl 0 (by omega)
  have HR := Lib.hid hR
  clear h1x h2x h3x
  obtain ⟨l, hl⟩ : ∃ l, l = G.length := ⟨_, rfl⟩
  have hsl : seg < l := by omega
  have hl2 : l ≤ 256 := by omega
  rw [← hl] at HPUT ⊢
  obtain ⟨k, hk⟩ : ∃ k, k = row.length := ⟨_, rfl⟩
  have CG : Hid ((w.alloc (.cells cs.toArray 143)).cell? ⟨g, seg, none⟩ = some (.slice (some ⟨bb, 0, none⟩) k cap)) := by rw [hk]; exact cg
  have cg2 := CG.out
  have hkc : k ≤ cap := by omega
  have hpk : page < k := by omega
  have hpk2 : k ≤ 64 := by omega
  have hm128 : m ≤ 128 := by omega
  have hn0b : n0 ≤ 9223372036854775807 := by have := he.2; omega
  have HK := Lib.hid hk
  have HB := Lib.hid hb
  have HM := Lib.hid hm
  have hmax : ∀ wx, (Builtin.max_ #[3, 3] 3 #[.int .i64 ext, .int .i64 0]).run Tryz.prog wx = .ok (.int .i64 (n0 : Int)) wx := by
    intro wx
    rw [show (n0 : Int) = max ext 0 by omega]
    simp [Builtin.max_, Builtin.max2, go_sem]
    try omega
  have hmin : ∀ wx, (Builtin.min_ #[3, 3] 3 #[.int .i64 (n0 : Int), .int .i64 128]).run Tryz.prog wx = .ok (.int .i64 (m : Int)) wx := by
    intro wx
    rw [show (m : Int) = min (n0 : Int) 128 by omega]
    simp [Builtin.min_, Builtin.min2, go_sem]
    try omega
  obtain ⟨news, hnews⟩ : ∃ x, x = b.take m := ⟨_, rfl⟩
  have HN := Lib.hid hnews
  have HNL : Hid (news.length = m) := by show news.length = m; rw [hnews, List.length_take]; omega
  have HC : Hid (∀ j u, (news.map byteV)[j]? = some u → (w.alloc (.cells cs.toArray 143)).drew.cell? ((⟨w.heap.size, 3, none⟩ : Addr).add j) = some u) := by
    intro j u hu
    have hj := (List.getElem?_eq_some_iff.1 hu).1
    rw [List.length_map, HNL.out] at hj
    rw [add_of]
    have := CB.out j (by omega)
    refine this.trans ?_
    rw [← hu, hnews]
    have hjb : j < b.length := by omega
    simp [byteV, hj, hjb]
  clear hbox hR put hsome hrl hgl hn0 hm hl hk cg CG hc0 hc1 hc2 hc3 H hrlen hrow hs he hnews hb hp
  go_enter Tryz.func73, Tryz.ntmps73
  go_wp2_with (fail)
  have hm128i : (m : Int) ≤ 128 := by omega
  go_region_law (refine step_row_copy Tryz.underlying37 info8 rfl (.tmp 27) (.tmp 31) rfl HR.out.drew 0 rfl (page * 128) 128 128 (by simp [Act.eval, Act.put]) (by rw [← HK.out]; omega) ⟨w.heap.size, 3, none⟩ m 128 news (by simp [Act.eval, Act.put]) (by rw [HNL.out]; omega) HC.out ?_; intro w2 h2; simp only [List.set_cons_zero] at h2; rw [HNL.out] at h2; rw [HNL.out]; have H2 := Lib.hid h2; clear h2)
  all_goals
    go_simp
    go_wp2
    go_end0
    refine ⟨rfl, ?_⟩
    have h := H2.out
    rw [HN.out, ← flat_cells HW.out page (by rw [← HK.out]; exact hpk) b m HB.out hm128] at h
    have h3 := HPUT.out w2 (row.set page (b.take m ++ (row.getD page []).drop m)) (by rw [List.length_set]) (by unfold pRow; rw [List.length_set]; exact h)
    exact h3.drop2
end Fla
end Go.Proofs.YtmdphcebmgcdbaaGreat
end
section
namespace Go.Proofs.YtmdphcebmgcdbaaGreat
open Go.RowKit Go.Own
namespace Fla
open Go.FlaM Byt
def wOf (a : FlaM.Act) : Bs := if a.page < 0 then List.replicate 128 0 else a.b
def opCells (a : FlaM.Act) : List Value := [.bool (decide (a.page < 0)), .int .i64 (a.seg : Int), .int .i64 (a.page.toNat : Int)] ++ (wOf a).map byteV
theorem wOf_len {n pp : Nat} {a : FlaM.Act} (h : ActOk n pp a) : (wOf a).length = 128 := by
  unfold wOf
  split
  · simp
  · rcases h.2 with ⟨_, _, h3⟩ | ⟨h1, _⟩
    · exact h3
    · omega
theorem opCells_len {n pp : Nat} {a : FlaM.Act} (h : ActOk n pp a) : (opCells a).length = 131 := by
  unfold opCells
  rw [List.length_append, List.length_map, wOf_len h]
  rfl
theorem apply_st {B : Nat} {w0 w : World} {Ps : List Asn} {v : Value} {G : List (List Bs)} {n pp : Nat} (H : Own.St B w0 w (PGrid 92 124 v G :: Ps)) (hs : Shape G n pp) (hn : n ≤ 256) (hp : 1 ≤ pp ∧ pp ≤ 64) (a : FlaM.Act) (ha : ActOk n pp a) (ext : Int) (he : i64B ext) :
    Calls Tryz.prog 73 #[.agg (opCells a).toArray, v, .int .i64 ext] w fun e w' => e = .returned (.tuple #[]) ∧ Own.St B w0 w' (PGrid 92 124 v (doOne pp G a ext) :: Ps) := by
  unfold doOne
  by_cases h : 0 ≤ a.page
  · rw [if_pos h]
    rcases ha.2 with ⟨h1, h2, h3⟩ | ⟨h1, _⟩
    · have hw : wOf a = a.b := by unfold wOf; rw [if_neg (by omega)]
      exact apply_prog H hs hn hp a.seg a.page.toNat ha.1 (by omega) (opCells a) a.b h3 (by simp [opCells]; omega) rfl rfl (fun j hj => by
        unfold opCells
        rw [hw, Nat.add_comm]
        simp [h3, hj]) ext he
    · omega
  · rw [if_neg h]
    exact apply_erase H hs hn hp a.seg ha.1 (opCells a) rfl (by simp [opCells]; omega) ext he
abbrev flCells (pp : Nat) (vN vS vP vW : Value) (n : Nat) (off armed : Bool) (lf : Int) : List Value := [.int .i64 (pp : Int), vN, vS, vP, vW, .int .i64 (n : Int), .bool off, .bool armed, .int .i64 lf]
set_option maxHeartbeats 1600000 in
theorem begin_st {B : Nat} {w0 w : World} {Ps : List Asn} {p pp : Nat} {vN vS vP vW : Value} {n : Nat} {off armed : Bool} {lf : Int} (H : Own.St B w0 w (AVals p 91 (flCells pp vN vS vP vW n off armed lf) :: Ps)) (hn : n ≤ 1000000) (hl : i64B lf) (hle : armed = true → 0 ≤ lf) :
    Calls Tryz.prog 43 #[ptr p] w fun e w' => if (off || (armed && decide (lf = 0))) = true then e = .returned (errV 6) ∧ Own.St B w0 w' (AVals p 91 (flCells pp vN vS vP vW n true armed lf) :: Ps)
      else e = .returned (errV 0) ∧ Own.St B w0 w' (AVals p 91 (flCells pp vN vS vP vW (n + 1) false armed (if armed then lf - 1 else lf)) :: Ps) := by
  obtain ⟨l1, l2⟩ := hl
  have c6 := (H.cellV 0 rfl 6 rfl)
  have c7 := (H.cellV 0 rfl 7 rfl)
  have c8 := (H.cellV 0 rfl 8 rfl)
  have c5 := (H.cellV 0 rfl 5 rfl)
  have H0 := Lib.hid H
  clear H
  go_enter Tryz.func43, Tryz.ntmps43
  cases off <;> cases armed
  · have H1 := Lib.hid (H0.out.storeV 0 rfl 5 (.int .i64 ((n : Int) + 1)))
    clear hle
    go_wp2
    go_ret
    simp only
    exact ⟨rfl, H1.out⟩
  · have hle2 := hle rfl
    clear hle
    by_cases hz : lf = 0
    · have H1 := Lib.hid (H0.out.storeV 0 rfl 6 (.bool true))
      go_wp2
      go_ret
      subst hz
      simp only
      exact ⟨rfl, H1.out⟩
    · have h1 := (H0.out.storeV 0 rfl 8 (.int .i64 (lf - 1)))
      have H1 := Lib.hid (h1.storeV 0 rfl 5 (.int .i64 ((n : Int) + 1)))
      have c5 := (h1.cellV 0 rfl 5 rfl)
      clear h1
      go_wp2
      go_ret
      simp only
      exact ⟨rfl, H1.out⟩
  · clear hle
    go_wp2
    go_ret
    simp only
    exact ⟨rfl, H0.out⟩
  · have hle2 := hle rfl
    clear hle
    by_cases hz : lf = 0
    · have H1 := Lib.hid (H0.out.storeV 0 rfl 6 (.bool true))
      go_wp2
      go_ret
      simp only
      subst hz
      exact ⟨rfl, H1.out⟩
    · go_wp2
      go_ret
      simp only
      exact ⟨rfl, H0.out⟩
theorem retB {a b : Bool} (h : a = b) : Ending.returned (.bool a) = .returned (.bool b) := by rw [h]
theorem hasSeg_st {B : Nat} {w0 w : World} {Ps : List Asn} {p pp nS cN : Nat} {aN : Option Addr} {vS vP vW : Value} {n : Nat} {off armed : Bool} {lf : Int} (H : Own.St B w0 w (AVals p 91 (flCells pp (.slice aN nS cN) vS vP vW n off armed lf) :: Ps)) (seg : Int) :
    Calls Tryz.prog 99 #[ptr p, .int .i64 seg] w fun e w' => e = .returned (.bool (decide (0 ≤ seg ∧ seg < (nS : Int)))) ∧ w' = w := by
  have c1 := (H.cellV 0 rfl 1 rfl).1
  clear H
  go_enter Tryz.func99, Tryz.ntmps99
  by_cases h0 : 0 ≤ seg
  · by_cases h1 : seg < (nS : Int)
    · go_wp2
      go_ret
      exact ⟨retB (by first | (simp; done) | (simp; omega) | (rw [Bool.eq_iff_iff]; simp; omega)), rfl⟩
    · go_wp2
      go_ret
      exact ⟨retB (by first | (simp; done) | (simp; omega) | (rw [Bool.eq_iff_iff]; simp; omega)), rfl⟩
  · go_wp2
    go_ret
    exact ⟨retB (by first | (simp; done) | (simp; omega) | (rw [Bool.eq_iff_iff]; simp; omega)), rfl⟩
theorem hasPage_st {B : Nat} {w0 w : World} {Ps : List Asn} {p pp nS cN : Nat} {aN : Option Addr} {vS vP vW : Value} {n : Nat} {off armed : Bool} {lf : Int} (H : Own.St B w0 w (AVals p 91 (flCells pp (.slice aN nS cN) vS vP vW n off armed lf) :: Ps)) (seg page : Int) :
    Calls Tryz.prog 71 #[ptr p, .int .i64 seg, .int .i64 page] w fun e w' => e = .returned (.bool (decide (0 ≤ seg ∧ seg < (nS : Int) ∧ 0 ≤ page ∧ page < (pp : Int)))) ∧ w' = w := by
  have CS := Lib.hid (hasSeg_st H seg)
  have c0 := (H.cellV 0 rfl 0 rfl).1
  clear H
  go_enter Tryz.func71, Tryz.ntmps71
  go_wp2_with (fail)
  refine CS.out.mono ?_
  clear CS
  by_cases hs : 0 ≤ seg ∧ seg < (nS : Int)
  · rw [decide_eq_true hs]
    rintro e w1 ⟨rfl, rfl⟩
    by_cases h0 : 0 ≤ page
    · by_cases h1 : page < (pp : Int)
      · go_wp2
        go_ret
        exact ⟨retB (by first | (simp; done) | (simp; omega) | (rw [Bool.eq_iff_iff]; simp; omega)), rfl⟩
      · go_wp2
        go_ret
        exact ⟨retB (by first | (simp; done) | (simp; omega) | (rw [Bool.eq_iff_iff]; simp; omega)), rfl⟩
    · go_wp2
      go_ret
      exact ⟨retB (by first | (simp; done) | (simp; omega) | (rw [Bool.eq_iff_iff]; simp; omega)), rfl⟩
  · rw [decide_eq_false hs]
    rintro e w1 ⟨rfl, rfl⟩
    go_wp2
    go_ret
    exact ⟨retB (by first | (simp; done) | (simp; omega) | (rw [Bool.eq_iff_iff]; simp; omega)), rfl⟩
end Fla
end Go.Proofs.YtmdphcebmgcdbaaGreat
end
section
namespace Go.Proofs.YtmdphcebmgcdbaaGreat
open Go.RowKit Go.Own
namespace Fla
open Go.FlaM Byt
theorem range_map (l : List Value) (n : Nat) (h : l.length = n) : (List.range n).map (fun i => l.getD i undef) = l := by
  apply List.ext_getElem
  · simp [h]
  · intro i h1 h2
    simp [List.getD, h2]
theorem zero_op : (Tryz.prog.info? 143).map (fun i => (i.size, i.bytes)) = some (131, 152) := by kernel_rfl
theorem slot_op (f : Nat → Value) : Tryz.prog.builtSlice 143 1 [(0, .agg ((List.range 131).map f).toArray)] = some ((List.range 131).map f).toArray := by kernel_rfl
theorem run_slot_op (cs : List Value) (hl : cs.length = 131) (w : World) : (Instr.buildSlice 89 1 #[(0, .agg cs.toArray)]).run Tryz.prog w = .ok (.slice (some ⟨w.heap.size, 0, none⟩) 1 1) (w.alloc (.cells cs.toArray 143)) := by
  have h : Tryz.prog.builtSlice 143 1 [(0, .agg cs.toArray)] = some cs.toArray := by
    have h := slot_op (fun i => cs.getD i undef)
    rw [range_map cs 131 hl] at h
    exact h
  unfold Program.builtSlice at h
  cases hie : Tryz.prog.info? 143 with
  | none => simp [hie] at h
  | some ie =>
    simp only [hie] at h
    cases hz : ie.zero with
    | none => simp [hz] at h
    | some z =>
      simp only [hz] at h
      by_cases hc : 1 * ie.size > 2 ^ 24 ∨ 1 * ie.size = 0
      · simp only [Nat.one_mul] at hc
        simp at h
        omega
      · rw [if_neg hc] at h
        have h1 : ¬ (1 * ie.size > 2 ^ 24) := fun h' => hc (Or.inl h')
        have h2 : ¬ (1 * ie.size = 0) := fun h' => hc (Or.inr h')
        simp only [Nat.one_mul] at h1 h2 h
        simp [Instr.buildSlice, run_underlying Tryz.underlying89, sizeOf, typeInfo, zeroValue, hie, hz, newRow, h1, h2, h]
theorem one_op {n pp : Nat} {a : FlaM.Act} : ∀ u ∈ opCells a, u.oneCell' = true := by
  intro u hu
  unfold opCells at hu
  rcases List.mem_append.1 hu with h | h
  · simp at h
    rcases h with rfl | rfl | rfl <;> rfl
  · exact byteV_one _ u h
theorem load_op (cs : List Value) (hl : cs.length = 131) {w : World} {b o : Nat} (hr : w.rangeAt b o cs) : (Instr.loadAt 143 (.pointer (some ⟨b, o, none⟩))).run Tryz.prog w = .ok (.agg cs.toArray) w := by
  obtain ⟨i, h1, h2⟩ := Option.map_eq_some_iff.1 zero_op
  simp only [Prod.mk.injEq] at h2
  exact run_loadAt_mid (P := Tryz.prog) w b o 143 cs _ hr Tryz.underlying143 rfl (by rw [h1, hl]; simp [h2.1])
theorem load_opE (cs : List Value) (hl : cs.length = 131) {o : Oper} {x : Tmp} (ho : o.op = .load 143 (.tmp x)) {b k : Nat} (ρ : Operand → Value) {w : World} (hr : w.rangeAt b k cs) (h0 : ρ (.tmp x) = .pointer (some ⟨b, k, none⟩)) : (execOp ρ o).run Tryz.prog w = .ok (.value (.agg cs.toArray)) w := by
  have := load_op cs hl hr
  unfold execOp
  simp only [ho, h0, Sem.run_bind, this, Result.andThen_ok, Sem.run_pure]
theorem info_op : (Tryz.prog.info? 143).map (fun i => (i.zero.map (·.cells.size), i.size, i.bytes)) = some (some 131, 131, 152) := by kernel_rfl
theorem range_box {B : Nat} {w0 w : World} {Ps : List Asn} {b : Nat} {t : TypeId} {cs : List Value} (H : Own.St B w0 w Ps) (i : Nat) (hi : Ps[i]? = some (AVals b t cs)) : w.rangeAt b 0 cs := fun j v hv => by
  rw [Nat.zero_add]
  exact (H.cellV i hi j hv).1
theorem run_op_append {B : Nat} {w0 w : World} {Ps : List Asn} (H : Own.St B w0 w Ps) (i : Nat) {v : Value} {n : Nat} {xs : List Value} (hi : Ps[i]? = some (ARow 143 131 v n xs)) (ty : TypeId)
    (bo : Addr) (ys : List Value) (hy : ys.length = 131) (hc : ∀ j u, ys[j]? = some u → w.cell? (bo.add j) = some u) (h1 : ∀ u ∈ ys, u.oneCell' = true) (b1 : n + 1 ≤ 20000) :
    ∃ v' w', (Builtin.append_ #[89, 89] ty #[v, .slice (some bo) 1 1]).run Tryz.prog w = .ok v' w' ∧ Own.St B w0 w' (Ps.set i (ARow 143 131 v' (n + 1) (xs ++ ys))) := by
  obtain ⟨i0, hi0, hz⟩ := Option.map_eq_some_iff.1 info_op
  simp only [Prod.mk.injEq] at hz
  obtain ⟨hz0, hz1, hz2⟩ := hz
  obtain ⟨z, hz3, hz4⟩ := Option.map_eq_some_iff.1 hz0
  obtain ⟨S, hS, _, put⟩ := H.at i hi
  obtain ⟨v', w', T', hr, hrow, hst⟩ := run_append_row (P := Tryz.prog) w 89 ty 143 i0 z 131 152 Tryz.underlying89 hi0 hz3 hz1 hz2 hz4 (by decide) v n xs hS (some bo) 1 1 ys (by intro h; cases h) (by rw [hy]) (fun a ha j u hu => by cases ha; exact hc j u hu) h1 (by unfold maxLen; omega) (by omega)
  exact ⟨v', w', hr, put T' w' (ARow 143 131 v' (n + 1) (xs ++ ys)) hrow hst⟩
theorem slot_opE {o : Oper} {x : Tmp} (ho : o.op = .buildSlice 89 1 #[(0, .tmp x)]) (cs : List Value) (hl : cs.length = 131) (ρ : Operand → Value) (w : World) (h0 : ρ (.tmp x) = .agg cs.toArray) : (execOp ρ o).run Tryz.prog w = .ok (.value (.slice (some ⟨w.heap.size, 0, none⟩) 1 1)) (w.alloc (.cells cs.toArray 143)) := by
  have := run_slot_op cs hl w
  unfold execOp
  simp [ho, h0, this]
theorem app_E {o : Oper} {s x : Tmp} {t1 t2 : TypeId} (ho : o.op = .call { callee := .builtin .append, args := #[.tmp s, .tmp x], argTypes := #[t1, t2] }) {ρ : Operand → Value} {w w' : World} {v vs vx : Value} (h0 : ρ (.tmp s) = vs) (h1 : ρ (.tmp x) = vx) (hrun : (Builtin.append_ #[t1, t2] o.type #[vs, vx]).run Tryz.prog w = .ok v w') : (execOp ρ o).run Tryz.prog w = .ok (.value v) w' := by
  unfold execOp
  simp [ho, h0, h1, resolve, invoke, builtin, hrun, Result.andThen]
theorem store_E {o : Oper} {x y : Tmp} {t : TypeId} (ho : o.op = .store t (.tmp x) (.tmp y)) {ρ : Operand → Value} {w w' : World} {a v : Value} (h0 : ρ (.tmp x) = a) (h1 : ρ (.tmp y) = v) (hrun : (Instr.storeAt t a v).run Tryz.prog w = .ok () w') : (execOp ρ o).run Tryz.prog w = .ok .skip w' := by
  unfold execOp
  simp [ho, h0, h1, hrun, Result.andThen]
set_option maxRecDepth 10000 in
set_option maxHeartbeats 800000 in
theorem perform_st {B : Nat} {w0 w : World} {Ps : List Asn} {p pp nn : Nat} {vN vS vP vW : Value} {G : List (List Bs)} {L : List FlaM.Act} {n : Nat} {off armed : Bool} {lf : Int}
    (H : Own.St B w0 w (AVals p 91 (flCells pp vN vS vP vW n off armed lf) :: PGrid 92 124 vN G :: ARow 143 131 vP L.length (L.flatMap opCells) :: Ps))
    (hs : Shape G nn pp) (hn : nn ≤ 256) (hp : 1 ≤ pp ∧ pp ≤ 64) (a : FlaM.Act) (ha : ActOk nn pp a) (hL : L.length ≤ 10000) :
    Calls Tryz.prog 72 #[ptr p, .agg (opCells a).toArray] w fun e w' => e = .returned (.tuple #[]) ∧ ∃ vP', Own.St B w0 w' (AVals p 91 (flCells pp vN vS vP' vW n off armed lf) :: PGrid 92 124 vN (doOne pp G a 9223372036854775807) :: ARow 143 131 vP' (L ++ [a]).length ((L ++ [a]).flatMap opCells) :: Ps) := by
  obtain ⟨cs, hcs⟩ : ∃ c, c = opCells a := ⟨_, rfl⟩
  have hcl : cs.length = 131 := by rw [hcs]; exact opCells_len ha
  have HONE : Hid (∀ u ∈ cs, u.oneCell' = true) := by rw [hcs]; exact one_op (n := nn) (pp := pp)
  have hbox := H.boxV 143 cs
  obtain ⟨bx, hbx⟩ : ∃ b, b = w.heap.size := ⟨_, rfl⟩
  obtain ⟨W1, hW1⟩ : ∃ W, W = w.alloc (.cells cs.toArray 143) := ⟨_, rfl⟩
  rw [← hbx, ← hW1] at hbox
  have H1 := Lib.hid hbox
  have HW1 := Lib.hid hW1
  have HBX := Lib.hid hbx
  have APP : Hid (∀ wx, Below W1.heap.size W1 wx → Calls Tryz.prog 73 #[.agg cs.toArray, vN, .int .i64 9223372036854775807] wx fun e w' => e = .returned (.tuple #[]) ∧ Own.St B w0 w' (PGrid 92 124 vN (doOne pp G a 9223372036854775807) :: AVals bx 143 cs :: AVals p 91 (flCells pp vN vS vP vW n off armed lf) :: ARow 143 131 vP L.length (L.flatMap opCells) :: Ps)) := by
    intro wx hwx
    have h1 := (H1.out.later hwx).front 2 rfl
    simp only [List.eraseIdx_cons_succ, List.eraseIdx_cons_zero] at h1
    rw [hcs]
    rw [hcs] at h1
    exact apply_st h1 hs hn hp a ha 9223372036854775807 (by unfold i64B; omega)
  have R1 : Hid (∀ wx, Below W1.heap.size W1 wx → wx.rangeAt bx 0 cs) := fun wx hwx => range_box (H1.out.later hwx) 0 rfl
  have C1 : Hid (∀ wx, Below W1.heap.size W1 wx → wx.cell? ⟨p, 1, none⟩ = some vN) := fun wx hwx => ((H1.out.later hwx).cellV 1 rfl 1 rfl).1
  have HCL := Lib.hid hcl
  have hfm : Hid ((L ++ [a]).flatMap opCells = L.flatMap opCells ++ cs) := by
    show (L ++ [a]).flatMap opCells = L.flatMap opCells ++ cs
    rw [List.flatMap_append, hcs]; simp
  rw [← hcs]
  have hll : Hid ((L ++ [a]).length = L.length + 1) := by show (L ++ [a]).length = L.length + 1; simp
  obtain ⟨xs, hxs⟩ : ∃ x, x = L.flatMap opCells := ⟨_, rfl⟩
  obtain ⟨k, hk⟩ : ∃ x, x = L.length := ⟨_, rfl⟩
  rw [← hxs, ← hk] at APP
  rw [← hxs] at hfm
  rw [← hk] at hll hL
  clear hcs hcl hbox hbx hW1 H hs hn hp ha hxs hk H1
  go_enter Tryz.func72, Tryz.ntmps72
  go_wp2_with (fail)
  rw [← HBX.out, ← HW1.out]
  clear HBX HW1
  refine wp_laxW_list 5 (by kernel_rfl) (by kernel_rfl) (by kernel_rfl) (by kernel_rfl) (by kernel_rfl) ?_
  simp only [List.take_succ_cons, List.take_zero, List.drop_succ_cons, List.drop_zero]
  refine lxR (.tmp 3) (.pointer (some ⟨bx, 0, none⟩)) (.agg cs.toArray) (fun wx ρ hwx h0 hc => load_opE cs HCL.out rfl ρ (R1.out wx hwx) h0) ?_; refine lxM (.pointer (some ⟨p, 0, none⟩)) rfl ?_; refine lxA (.tmp 5) (.pointer (some ⟨p, 0, none⟩)) (.pointer (some ⟨p, 0, none⟩)) ?_; refine lxA (.tmp 6) (.pointer (some ⟨p, 0, none⟩)) (.pointer (some ⟨p, 1, none⟩)) ?_; refine lxR (.tmp 7) (.pointer (some ⟨p, 1, none⟩)) vN (fun wx ρ hwx h0 hc => by simp [go_sem, h0, C1.out wx hwx]) ?_
  refine wpL_end (by kernel_rfl) (fun w2 hw2 => ?_)
  simp only [FinL, setL, List.set_cons_zero, List.set_cons_succ]
  intro _
  have CA := Lib.hid (APP.out w2 hw2)
  clear APP R1 C1 hw2
  go_wp2_with (fail)
  refine CA.out.mono ?_
  clear CA
  rintro e w3 ⟨rfl, h3⟩
  have c3 := (h3.cellV 2 rfl 3 rfl).1
  have H3 := Lib.hid h3
  have LD := load_op cs HCL.out (range_box h3.drew 1 rfl)
  have BS := run_slot_op cs HCL.out w3.drew
  have h4 := (h3.drew).alloc (.cells cs.toArray 143)
  have CN : Hid (∀ j u, cs[j]? = some u → (w3.drew.alloc (.cells cs.toArray 143)).cell? ((⟨w3.heap.size, 0, none⟩ : Addr).add j) = some u) := by
    intro j u hu
    rw [add_of, Nat.zero_add]
    exact cell_of_block (heap_alloc_new w3.drew _) (by simpa using hu)
  have H4 := Lib.hid h4
  obtain ⟨v5, w5, hr5, h5⟩ := run_op_append h4 3 rfl 89 ⟨w3.heap.size, 0, none⟩ cs HCL.out CN.out HONE.out (by omega)
  simp only [List.set_cons_zero, List.set_cons_succ] at h5
  obtain ⟨ao5, cap5, rfl⟩ := h5.rowForm 3 rfl
  have q5 := (h5.cellV 2 rfl 3 rfl)
  have H6 := Lib.hid (h5.storeV 2 rfl 3 (.slice ao5 (k + 1) cap5))
  have HR5 := Lib.hid hr5
  have Q5 := Lib.hid q5
  have C3a := Lib.hid c3
  have C3b : Hid ((w3.drew.alloc (.cells cs.toArray 143)).cell? ⟨p, 3, none⟩ = some vP) := (h4.cellV 2 rfl 3 rfl).1
  have HLD : Hid (w3.drew.rangeAt bx 0 cs) := range_box H3.out.drew 1 rfl
  clear h3 h4 h5 q5 hr5 c3 LD BS
  go_wp2_with (fail)
  refine wp_chain_list [6, 7, 10] (fun j wx => wx = match j with | 0 => w3.drew | 1 => w3.drew.alloc (.cells cs.toArray 143) | 2 => w5 | _ => w5.setCell ⟨p, 3, none⟩ (.slice ao5 (k + 1) cap5)) (by kernel_rfl) (by kernel_rfl) (by kernel_rfl) (by kernel_rfl) rfl ?_
  refine wpG_move (.pointer (some ⟨p, 0, none⟩)) rfl (by kernel_rfl) (by kernel_rfl) (by kernel_rfl) ?_
  refine wpG_move (.pointer (some ⟨p, 0, none⟩)) rfl (by kernel_rfl) (by kernel_rfl) (by kernel_rfl) ?_
  refine wpG_run1 (x := .tmp 11) (.pointer (some ⟨p, 0, none⟩)) (.pointer (some ⟨p, 0, none⟩)) (by kernel_rfl) (by kernel_rfl) (by kernel_rfl) (by kernel_rfl) (fun j wx ρ hC h0 hc => by simp [go_sem, h0]) ?_
  refine wpG_run1 (x := .tmp 12) (.pointer (some ⟨p, 0, none⟩)) (.pointer (some ⟨p, 3, none⟩)) (by kernel_rfl) (by kernel_rfl) (by kernel_rfl) (by kernel_rfl) (fun j wx ρ hC h0 hc => by simp [go_sem, h0]) ?_
  refine wpG_runU1 (x := .tmp 13) 1 (.pointer (some ⟨p, 3, none⟩)) vP (by kernel_rfl) (by kernel_rfl) (by kernel_rfl) (by kernel_rfl) (by kernel_rfl) (by kernel_rfl) (fun j wx ρ hj hC h0 hc => ?_) ?_
  · have hcell : wx.cell? ⟨p, 3, none⟩ = some vP := by
      match j, hj with
      | 0, _ => subst hC; exact C3a.out
      | 1, _ => subst hC; exact C3b.out
    simp [go_sem, h0, hcell]
  refine wpG_runU1 (x := .tmp 3) 0 (.pointer (some ⟨bx, 0, none⟩)) (.agg cs.toArray) (by kernel_rfl) (by kernel_rfl) (by kernel_rfl) (by kernel_rfl) (by kernel_rfl) (by kernel_rfl) (fun j wx ρ hj hC h0 hc => ?_) ?_
  · obtain rfl : j = 0 := by omega
    subst hC
    exact load_opE cs HCL.out rfl ρ HLD.out h0
  refine wpG_op 0 (.slice (some ⟨w3.heap.size, 0, none⟩) 1 1) _ (.inl rfl) (by kernel_rfl) (by kernel_rfl) (by kernel_rfl) (by kernel_rfl) (by kernel_rfl) (fun wx hC => ⟨_, by subst hC; exact slot_opE rfl cs HCL.out _ _ rfl, rfl⟩) ?_
  refine wpG_op 1 (.slice ao5 (k + 1) cap5) _ (.inl rfl) (by kernel_rfl) (by kernel_rfl) (by kernel_rfl) (by kernel_rfl) (by kernel_rfl) (fun wx hC => ⟨_, by subst hC; exact app_E rfl rfl rfl HR5.out, rfl⟩) ?_
  refine wpG_run1 (x := .tmp 10) (.pointer (some ⟨p, 0, none⟩)) (.pointer (some ⟨p, 0, none⟩)) (by kernel_rfl) (by kernel_rfl) (by kernel_rfl) (by kernel_rfl) (fun j wx ρ hC h0 hc => by simp [go_sem, h0]) ?_
  refine wpG_run1 (x := .tmp 18) (.pointer (some ⟨p, 0, none⟩)) (.pointer (some ⟨p, 3, none⟩)) (by kernel_rfl) (by kernel_rfl) (by kernel_rfl) (by kernel_rfl) (fun j wx ρ hC h0 hc => by simp [go_sem, h0]) ?_
  refine wpG_op 2 undef _ (.inr ⟨rfl, rfl⟩) (by kernel_rfl) (by kernel_rfl) (by kernel_rfl) (by kernel_rfl) (by kernel_rfl) (fun wx hC => ⟨w5.setCell ⟨p, 3, none⟩ (.slice ao5 (k + 1) cap5), by subst hC; exact store_E (a := .pointer (some ⟨p, 3, none⟩)) (v := .slice ao5 (k + 1) cap5) rfl (by kernel_rfl) (by kernel_rfl) (by simp [go_sem, Q5.out.1, Q5.out.2]), rfl⟩) ?_
  refine wpG_end (fun w9 hw9 => ?_)
  subst hw9
  simp only [setL, List.set_cons_zero, List.set_cons_succ]
  go_wp2
  go_end0
  refine ⟨rfl, .slice ao5 (k + 1) cap5, ?_⟩
  have h := H6.out
  simp only [List.set_cons_zero, List.set_cons_succ] at h
  rw [hll.out, hfm.out]
  have h2 := (h.front 2 rfl)
  simp only [List.eraseIdx_cons_succ, List.eraseIdx_cons_zero] at h2
  exact (h2.perm ((List.Perm.swap _ _ _).cons _)).perm ((List.Perm.swap _ _ _)) |>.drop 1 |>.perm (List.Perm.refl _)
end Fla
end Go.Proofs.YtmdphcebmgcdbaaGreat
end
section
namespace Go.Own
open Go.RowKit
end Go.Own
namespace Go.Proofs.YtmdphcebmgcdbaaGreat
open Go.RowKit Go.Own
namespace Fla
open Go.FlaM Byt
theorem zero_opV : ∃ z : Array Value, z.size = 131 ∧ (Tryz.prog.info? 143).bind (·.zero) = some (.agg z) := by
  refine ⟨#[.bool false, .int .i64 0, .int .i64 0] ++ ((List.replicate 128 (0 : UInt8)).map byteV).toArray, by simp, ?_⟩
  kernel_rfl
theorem info_opL (cs : List Value) (h : cs.length = 131) : (Tryz.prog.info? 143).map (·.size) = some cs.toArray.size := by
  have h0 : (Tryz.prog.info? 143).map (fun i => i.size) = some 131 := by kernel_rfl
  rw [List.size_toArray, h]
  exact h0
theorem fn_enter {o : Oper} {x y : Tmp} {ts : Array TypeId} (ho : o.op = .call { callee := .value (.tmp x), args := #[.tmp y], argTypes := ts }) (f : FuncId) (caps : Array Value) (hfn : ∀ (args : Array Value) w, (callFunc f args).run Tryz.prog w = .ok (.enter f args) w) (ρ : Operand → Value) {v : Value} (h0 : ρ (.tmp x) = .func (.func f) #[] caps) (h1 : ρ (.tmp y) = v) (w : World) :
    (execOp ρ o).run Tryz.prog w = .ok (.enter f (#[v] ++ caps)) w := by
  unfold execOp
  simp [ho, resolve, h0, h1, Deferred.ofValue, invoke, go_sem, hfn]
set_option maxRecDepth 10000 in
set_option maxHeartbeats 1600000 in
theorem settle_st {B : Nat} {w0 w : World} {Ps : List Asn} {p pp nn : Nat} {vN vS vP vW : Value} {G : List (List Bs)} {L : List FlaM.Act} {n : Nat} {off armed : Bool} {lf : Int} (f : FuncId) (caps : Array Value) (φ : Nat → Int)
    (H : Own.St B w0 w (AVals p 91 (flCells pp vN vS vP vW n off armed lf) :: PGrid 92 124 vS G :: ARow 143 131 vP L.length (L.flatMap opCells) :: Ps))
    (hs : Shape G nn pp) (hn : nn ≤ 256) (hp : 1 ≤ pp ∧ pp ≤ 64) (hall : ∀ a ∈ L, ActOk nn pp a) (hL : L.length ≤ 10000) (hφ : ∀ i, i64B (φ i))
    (hent : ∀ (args : Array Value) w, (callFunc f args).run Tryz.prog w = .ok (.enter f args) w)
    (hf : ∀ (i : Nat) (wx : World) (Xs : List Asn), i < L.length → Own.St B w0 wx (Xs ++ Ps) → Calls Tryz.prog f (#[.int .i64 (i : Int)] ++ caps) wx fun e w' => e = .returned (.int .i64 (φ i)) ∧ Below wx.heap.size wx w') :
    Calls Tryz.prog 44 #[ptr p, .func (.func f) #[] caps] w fun e w' => e = .returned (.tuple #[]) ∧ Own.St B w0 w' (AVals p 91 (flCells pp vN vS (.slice none 0 0) vW n off armed lf) :: PGrid 92 124 vS (doAllF pp φ G 0 L) :: ARow 143 131 (.slice none 0 0) 0 [] :: Ps) := by
  have HALL := Lib.hid hall
  have HS := Lib.hid hs
  have HF := Lib.hid hf
  have HP := Lib.hid hp
  have HN := Lib.hid hn
  have HPHI := Lib.hid hφ
  have HENT := Lib.hid hent
  obtain ⟨R, hR⟩ : ∃ R, R = doAllF pp φ G 0 L := ⟨_, rfl⟩
  rw [← hR]
  have HR := Lib.hid hR
  obtain ⟨aP, cP, rfl⟩ := H.rowForm 2 rfl
  obtain ⟨l, hl⟩ : ∃ l, l = L.length := ⟨_, rfl⟩
  rw [← hl] at H hL hf
  have HLL := Lib.hid hl
  have c3 := (H.cellV 0 rfl 3 rfl).1
  have H0 := Lib.hid H
  have hflat := flat_length opCells 131 L (fun a ha => opCells_len (hall a ha))
  have HFLAT := Lib.hid hflat
  obtain ⟨z, hz1, hz2⟩ := zero_opV
  have HZ1 := Lib.hid hz1
  have HZ2 := Lib.hid hz2
  clear hall hs hf hp hn hφ hent hR hl H hflat hz1 hz2
  go_enter Tryz.func44, Tryz.ntmps44
  go_wp2
  clear c3
  go_loopw [11] (fun v wr => ∃ (k : Nat) (Gk : List (List Bs)), k ≤ l ∧ v = .int .i64 (k : Int) ∧ Shape Gk nn pp ∧ R = doAllF pp φ Gk k (L.drop k) ∧ Own.St B w0 wr (AVals p 91 (flCells pp vN vS (.slice aP l cP) vW n off armed lf) :: PGrid 92 124 vS Gk :: ARow 143 131 (.slice aP l cP) l (L.flatMap opCells) :: Ps)) (fun v _ => l - (intOf v).toNat)
  case atStart => exact ⟨0, G, Nat.zero_le _, rfl, HS.out, HR.out, H0.out⟩
  case round =>
    obtain ⟨k, Gk, hkl, rfl, hsh, hrk, H⟩ := hrel
    have H := Lib.hid H
    have HSH := Lib.hid hsh
    have HRK := Lib.hid hrk
    clear H0 hsh hrk
    by_cases hk : (k : Int) < (l : Int)
    · have hkn : k < l := by omega
      obtain ⟨a, hak⟩ : ∃ a, L[k]? = some a := ⟨_, List.getElem?_eq_getElem (by rw [← HLL.out]; exact hkn)⟩
      have HAK := Lib.hid hak
      have HA := Lib.hid (HALL.out a (List.mem_of_getElem? hak))
      obtain ⟨cs, hcs⟩ : ∃ c, c = opCells a := ⟨_, rfl⟩
      have HCS := Lib.hid hcs
      have HCL : Hid (cs.length = 131) := by show cs.length = 131; rw [hcs]; exact opCells_len HA.out
      have HONE : Hid (∀ u ∈ cs, u.oneCell' = true) := by rw [hcs]; exact one_op (n := nn) (pp := pp)
      obtain ⟨g, rfl, _, _, _⟩ := H.out.rowAt 2 rfl (k * 131) (by omega)
      have RNG : Hid (wr.rangeAt g (k * 131) cs) := by
        intro j v hv
        have hj := (List.getElem?_eq_some_iff.1 hv).1
        rw [HCL.out] at hj
        have h1 := (H.out.rowRange 2 rfl (k * 131 + j) (by omega)).1
        rw [h1, flat_at opCells 131 L (fun a ha => opCells_len (HALL.out a ha)) k a HAK.out j hj, ← hcs]
        exact hv
      have IO := Lib.hid (info_opL cs HCL.out)
      have IOL : Hid ((Tryz.prog.info? 143).map (·.size) = some cs.length) := by have := info_opL cs HCL.out; rwa [List.size_toArray] at this
      have OO : Hid (cs.toArray.all (·.oneCell') = true) := all_oneCell_toArray HONE.out
      obtain ⟨b5, hb5⟩ : ∃ b, b = wr.heap.size := ⟨_, rfl⟩
      obtain ⟨W1, hW1⟩ : ∃ W, W = wr.alloc (.cells z 143) := ⟨_, rfl⟩
      have hbx := H.out.box (.cells z 143)
      have hbx2 : Own.St B w0 W1 (AVals b5 143 z.toList :: AVals p 91 (flCells pp vN vS (.slice (some ⟨g, 0, none⟩) l cP) vW n off armed lf) :: PGrid 92 124 vS Gk :: ARow 143 131 (.slice (some ⟨g, 0, none⟩) l cP) l (L.flatMap opCells) :: Ps) := by
        unfold AVals
        rw [hb5, hW1, Array.toArray_toList]
        exact hbx
      have HB5 := Lib.hid hb5
      have HW1 := Lib.hid hW1
      have TH : Hid (W1.there b5 0 cs.toArray.size) := hbx2.thereV 0 rfl (by rw [List.size_toArray, HCL.out, Array.length_toList, HZ1.out]; exact Nat.le_refl _)
      have hset := Own.St.setAll 0 cs 0 W1 _ z.toList hbx2 rfl (by rw [HCL.out, Array.length_toList, HZ1.out])
      simp only [List.set_cons_zero, List.take_zero, List.nil_append] at hset
      obtain ⟨W2, hW2⟩ : ∃ W, W = W1.setCells b5 0 cs.toArray.toList := ⟨_, rfl⟩
      have HW2 := Lib.hid hW2
      have H2 : Hid (Own.St B w0 W2 (AVals b5 143 cs :: AVals p 91 (flCells pp vN vS (.slice (some ⟨g, 0, none⟩) l cP) vW n off armed lf) :: PGrid 92 124 vS Gk :: ARow 143 131 (.slice (some ⟨g, 0, none⟩) l cP) l (L.flatMap opCells) :: Ps)) := by
        rw [hW2, List.toList_toArray]; exact hset
      have R5 : Hid (∀ wx, Below W2.heap.size W2 wx → wx.rangeAt b5 0 cs) := fun wx hwx => range_box (H2.out.later hwx) 0 rfl
      have C2 : Hid (∀ wx, Below W2.heap.size W2 wx → wx.cell? ⟨p, 2, none⟩ = some vS) := fun wx hwx => ((H2.out.later hwx).cellV 1 rfl 2 rfl).1
      have CF : Hid (∀ wx, Below W2.heap.size W2 wx → Calls Tryz.prog f (#[.int .i64 (k : Int)] ++ caps) wx fun e w' => e = .returned (.int .i64 (φ k)) ∧ Below wx.heap.size wx w') := fun wx hwx =>
        HF.out k wx [_, _, _, _] (by rw [← HLL.out]; exact hkn) (H2.out.later hwx)
      obtain ⟨ext, hext⟩ : ∃ e, e = φ k := ⟨_, rfl⟩
      rw [← hext] at CF
      have CA : Hid (∀ wx, Below W2.heap.size W2 wx → Calls Tryz.prog 73 #[.agg cs.toArray, vS, .int .i64 ext] wx fun e w' => e = .returned (.tuple #[]) ∧ Own.St B w0 w' (PGrid 92 124 vS (doOne pp Gk a ext) :: AVals b5 143 cs :: AVals p 91 (flCells pp vN vS (.slice (some ⟨g, 0, none⟩) l cP) vW n off armed lf) :: ARow 143 131 (.slice (some ⟨g, 0, none⟩) l cP) l (L.flatMap opCells) :: Ps)) := by
        intro wx hwx
        have h1 := (H2.out.later hwx).front 2 rfl
        simp only [List.eraseIdx_cons_succ, List.eraseIdx_cons_zero] at h1
        rw [hcs]
        rw [hcs] at h1
        exact apply_st h1 HSH.out HN.out HP.out a HA.out ext (by rw [hext]; exact HPHI.out k)
      have HSN : Hid (Shape (doOne pp Gk a ext) nn pp) := shape_one HSH.out a HA.out ext
      have HRN : Hid (R = doAllF pp φ (doOne pp Gk a ext) (k + 1) (L.drop (k + 1))) := by
        show R = _
        rw [HRK.out, doAllF_step pp φ L Gk k a HAK.out, hext]
      clear hak hcs hb5 hW1 hbx hbx2 hset hW2 hext HAK HA HCS HONE H HSH HRK
      go_wp2_with (first
        | (refine wpList_load_mid rfl 143 (.tmp 14) rfl g (k * 131) rfl cs _ RNG.out Tryz.underlying143 rfl IOL.out ?_)
        | (refine Fla.wpList_allocZ rfl 143 rfl z HZ2.out ?_; rw [← HB5.out, ← HW1.out])
        | (refine wpList_store_mid rfl 143 (.tmp 5) (.tmp 15) rfl b5 0 cs.toArray rfl rfl TH.out IO.out OO.out ?_; rw [← HW2.out]))
      clear RNG TH
      refine wp_laxW_list 8 (by kernel_rfl) (by kernel_rfl) (by kernel_rfl) (by kernel_rfl) (by kernel_rfl) ?_
      simp only [List.take_succ_cons, List.take_zero, List.drop_succ_cons, List.drop_zero]
      refine lxR (.tmp 5) (.pointer (some ⟨b5, 0, none⟩)) (.agg cs.toArray) (fun wx ρ hwx h0 hc => load_opE cs HCL.out rfl ρ (R5.out wx hwx) h0) ?_; refine lxM (.pointer (some ⟨p, 0, none⟩)) rfl ?_; refine lxA (.tmp 17) (.pointer (some ⟨p, 0, none⟩)) (.pointer (some ⟨p, 0, none⟩)) ?_; refine lxA (.tmp 18) (.pointer (some ⟨p, 0, none⟩)) (.pointer (some ⟨p, 2, none⟩)) ?_; refine lxR (.tmp 19) (.pointer (some ⟨p, 2, none⟩)) vS (fun wx ρ hwx h0 hc => by simp [go_sem, h0, C2.out wx hwx]) ?_; refine lxM (.func (.func f) #[] caps) rfl ?_; refine lxM (.int .i64 (k : Int)) rfl ?_
      refine wpL_call (.int .i64 ext) (#[.int .i64 (k : Int)] ++ caps) (by kernel_rfl) (by kernel_rfl) (by kernel_rfl) (by kernel_rfl) (fun wx => fn_enter rfl f caps HENT.out _ (by kernel_rfl) (by kernel_rfl) wx) ?_ ?_
      · clear CA
        intro wx hwx
        exact CF.out wx hwx
      refine wpL_end (by kernel_rfl) (fun w3 hw3 => ?_)
      simp only [FinL, setL, List.set_cons_zero, List.set_cons_succ]
      intro _
      have CA3 := Lib.hid (CA.out w3 hw3)
      clear CA CF R5 C2 hw3
      go_wp2_with (fail)
      refine CA3.out.mono ?_
      clear CA3
      rintro e w4 ⟨rfl, h4⟩
      have H4 := Lib.hid h4
      clear h4
      go_wp2
      go_roundw
      case rel =>
        refine ⟨k + 1, _, by omega, by go_num, HSN.out, HRN.out, ?_⟩
        have h := (H4.out.perm ((List.Perm.swap _ _ _))).drop 1
        exact h.swap2
      case measure => simp [intOf]; omega
    · have hkl2 : k = l := by omega
      have HE : Hid (R = Gk) := by
        show R = Gk
        rw [HRK.out, List.drop_of_length_le (by rw [← HLL.out]; omega)]
        rfl
      have q := H.out.cellV 0 rfl 3 rfl
      have HF2 := Lib.hid (H.out.storeV 0 rfl 3 (.slice none 0 0))
      clear HRK HR
      go_wp2
      go_end0
      refine ⟨rfl, ?_⟩
      have h := (HF2.out.front 2 rfl).drop 1
      simp only [List.set_cons_zero, List.set_cons_succ, List.eraseIdx_cons_succ, List.eraseIdx_cons_zero, List.drop_succ_cons, List.drop_zero] at h
      rw [HE.out]
      exact ((h.rowFresh (e := 143) (size := 131)).perm (List.Perm.swap _ _ _)).perm ((List.Perm.swap _ _ _).cons _)
end Fla
end Go.Proofs.YtmdphcebmgcdbaaGreat
end
section
namespace Go.Proofs.YtmdphcebmgcdbaaGreat
open Go.RowKit Go.Own
namespace Fla
open Go.FlaM Byt
theorem manyPage : Many Tryz.prog 92 124 128 128 := ⟨Tryz.underlying92, by kernel_rfl, by decide⟩
theorem manyByte : Many Tryz.prog 37 5 1 1 := ⟨Tryz.underlying37, by kernel_rfl, by decide⟩
theorem oneRowB : One Tryz.prog 88 92 (.slice none 0 0) 24 := ⟨Tryz.underlying88, by kernel_rfl, rfl⟩
set_option maxHeartbeats 800000 in
theorem clonePages {B : Nat} {w0 w : World} {Ps : List Asn} {ao : Option Addr} {n cap : Nat} {xs : List Value} (H : Own.St B w0 w (ARow 124 128 (.slice ao n cap) n xs :: Ps)) (h1 : ∀ u ∈ xs, u.oneCell' = true) (hb : n ≤ 100000) :
    Calls Tryz.prog 59 #[.slice ao n cap] w fun e w' => ∃ a' c', e = .returned (.slice a' n c') ∧ Own.St B w0 w' (ARow 124 128 (.slice a' n c') n xs :: ARow 124 128 (.slice ao n cap) n xs :: Ps) := by
  have hl := H.rowLen 0 rfl
  have H0 := Lib.hid H
  have HO := Lib.hid h1
  have H1 := Lib.hid (H.emptyRow 124 128)
  have HN := Lib.hid (H1.out.rowNews 1 rfl)
  have HL := Lib.hid hl
  clear H h1 hl
  go_enter Tryz.func59, Tryz.ntmps59
  rcases ao with _ | a
  · obtain ⟨rfl, rfl⟩ := HL.out.2.2.2 rfl
    have hx : xs = [] := List.eq_nil_of_length_eq_zero (by have := HL.out.1; omega)
    subst hx
    clear HN H1 HO HL
    have hq := eqlNil (P := Tryz.prog) w 92 _ none 0 0 Tryz.underlying92
    simp only [Option.isNone_none] at hq
    go_wp2
    go_ret
    exact ⟨none, 0, rfl, H0.out.rowFresh⟩
  · have hq := eqlNil (P := Tryz.prog) w 92 _ (some a) n cap Tryz.underlying92
    simp only [Option.isNone_some] at hq
    go_wp2_with (refine wpList_many_append manyPage rfl (.tmp 5) (.tmp 6) rfl H1.out 0 rfl rfl (some a) n cap xs rfl (by intro h; cases h) HL.out.1 HN.out HO.out (by omega) (by decide) ?_; intro a2 c2 w2 h2; simp only [List.set_cons_zero, Nat.zero_add, List.nil_append] at h2 ⊢; have H2 := Lib.hid h2; clear h2)
    go_ret
    exact ⟨_, _, rfl, H2.out⟩
set_option maxHeartbeats 800000 in
theorem cloneBytes {B : Nat} {w0 w : World} {Ps : List Asn} (H : Own.St B w0 w Ps) (a : Addr) (n cap : Nat) (l : Bs) (hl : l.length = n) (hc : ∀ j u, (l.map byteV)[j]? = some u → w.cell? (a.add j) = some u) (hlt : n = 0 ∨ a.block < w.heap.size) (hb : n ≤ 100000) :
    Calls Tryz.prog 74 #[.slice (some a) n cap] w fun e w' => ∃ a' c', e = .returned (.slice a' n c') ∧ Own.St B w0 w' (AB a' n c' l :: Ps) := by
  have H1 := Lib.hid (H.emptyRow 5 1)
  have HL : Hid ((l.map byteV).length = n * 1) := by show (l.map byteV).length = n * 1; simp [hl]
  have HN : Hid (∀ a', some a = some a' → ∀ j u, (l.map byteV)[j]? = some u → (w.alloc (.cells #[] 5)).cell? (a'.add j) = some u) := by
    intro a' ha j u hu
    cases ha
    exact cell_alloc (hc j u hu) _
  clear H hc hlt
  have hq := eqlNil (P := Tryz.prog) w 37 _ (some a) n cap Tryz.underlying37
  simp only [Option.isNone_some] at hq
  go_enter Tryz.func74, Tryz.ntmps74
  go_wp2_with (refine wpList_many_append manyByte rfl (.tmp 5) (.tmp 6) rfl H1.out 0 rfl rfl (some a) n cap (l.map byteV) rfl (by intro h; cases h) HL.out HN.out (byteV_one _) (by omega) (by decide) ?_; intro a2 c2 w2 h2; simp only [List.set_cons_zero, Nat.zero_add, List.nil_append] at h2 ⊢; have H2 := Lib.hid h2; clear h2)
  go_ret
  exact ⟨_, _, rfl, H2.out⟩
theorem take_set_next {α : Type} (rows : List α) (d : α) (k : Nat) (row : α) (h : rows[k]? = some row) : (rows.take k ++ List.replicate (rows.length - k) d).set k row = rows.take (k + 1) ++ List.replicate (rows.length - (k + 1)) d := by
  obtain ⟨hl, rfl⟩ := List.getElem?_eq_some_iff.1 h
  have e : rows.length - k = (rows.length - (k + 1)) + 1 := by omega
  rw [e, List.replicate_succ, List.set_append_right _ _ (by rw [List.length_take]; omega), List.length_take, show k - min k rows.length = 0 by omega, List.set_cons_zero, List.take_succ_eq_append_getElem hl, List.append_assoc]
  rfl
set_option maxHeartbeats 1600000 in
theorem clone_st {B : Nat} {w0 w : World} {Ps : List Asn} {v : Value} {G : List (List Bs)} {nn pp : Nat} (H : Own.St B w0 w (PGrid 92 124 v G :: Ps)) (hs : Shape G nn pp) (hn : nn ≤ 256) (hp : 1 ≤ pp ∧ pp ≤ 64) :
    Calls Tryz.prog 36 #[v] w fun e w' => ∃ a' c', e = .returned (.slice a' G.length c') ∧ Own.St B w0 w' (PGrid 92 124 (.slice a' G.length c') G :: PGrid 92 124 v G :: Ps) := by
  have hgl := hs.len
  have HS := Lib.hid hs
  obtain ⟨l, hl⟩ : ∃ l, l = G.length := ⟨_, rfl⟩
  have hlb : l ≤ 256 := by omega
  have HL := Lib.hid hl
  obtain ⟨rs, hrs, ho⟩ := H.pOpen
  obtain ⟨aV, cV, rfl⟩ := ho.rowForm 0 rfl
  rw [← hl]
  rw [← hl] at H
  clear ho hrs rs
  obtain ⟨w1, g1, hmk, h1⟩ := St.pMake (e := 124) oneRowB H .i64 .i64 l (by omega) (by decide)
  have H1 := Lib.hid h1
  clear H h1 hl hgl hs
  go_enter Tryz.func36, Tryz.ntmps36
  go_wp2
  clear hmk
  go_loopw [10] (fun v wr => ∃ k : Nat, k ≤ l ∧ v = .int .i64 (k : Int) ∧ Own.St B w0 wr (PGrid 92 124 (.slice (some ⟨g1, 0, none⟩) l l) (G.take k ++ List.replicate (G.length - k) []) :: PGrid 92 124 (.slice aV l cV) G :: Ps)) (fun v _ => l - (intOf v).toNat)
  case atStart => exact ⟨0, Nat.zero_le _, rfl, by rw [List.take_zero, List.nil_append, Nat.sub_zero, ← HL.out]; exact H1.out⟩
  case round =>
    obtain ⟨k, hkl, rfl, H⟩ := hrel
    have H := Lib.hid H
    clear H1
    by_cases hk : (k : Int) < (l : Int)
    · have hkn : k < l := by omega
      obtain ⟨row, hrow⟩ : ∃ row, G[k]? = some row := ⟨_, List.getElem?_eq_getElem (by rw [← HL.out]; exact hkn)⟩
      have hnn : l = nn := by rw [HL.out]; exact HS.out.len
      have hgd : G.getD k [] = row := by rw [List.getD_eq_getElem?_getD, hrow]; rfl
      have hrl : row.length = pp := by rw [← hgd]; exact HS.out.rows k (by omega)
      obtain ⟨g, c, ⟨ar, cr⟩, Qs, hv, cg, hR, put⟩ := H.out.swap2.pRowAtX k row hrow
      simp only [Value.slice.injEq] at hv
      obtain ⟨rfl, hvl, rfl⟩ := hv
      clear hvl
      have HR := Lib.hid hR
      have PUT : Hid (∀ w' a' c', Own.St B w0 w' (pRow 124 (a', c') row :: pRow 124 (ar, cr) row :: Qs) → ∃ (c1 : Nat), c1 = l ∧ (∃ u, w'.cell? ⟨g1, k, none⟩ = some u) ∧ w'.frozen? ⟨g1, k, none⟩ = false ∧ Own.St B w0 (w'.setCell ⟨g1, k, none⟩ (.slice a' row.length c')) (PGrid 92 124 (.slice (some ⟨g1, 0, none⟩) l l) (G.take (k + 1) ++ List.replicate (G.length - (k + 1)) []) :: PGrid 92 124 (.slice (some ⟨g, 0, none⟩) l cV) G :: Ps)) := by
        intro w' a' c' h
        have h2 := put w' row [pRow 124 (a', c') row] rfl h
        rw [show G.set k row = G by
          obtain ⟨hl2, rfl⟩ := List.getElem?_eq_some_iff.1 hrow
          exact List.set_getElem_self hl2] at h2
        have h3 := h2.front 2 rfl
        simp only [List.cons_append, List.nil_append, List.eraseIdx_cons_succ, List.eraseIdx_cons_zero] at h3
        have hlen : (G.take k ++ List.replicate (G.length - k) ([] : List Bs)).length = l := by rw [List.length_append, List.length_take, List.length_replicate]; have := HL.out; omega
        obtain ⟨g2, c2, hv2, hcu, hfz, h4⟩ := h3.pPut k (by rw [hlen]; exact hkn)
        simp only [Value.slice.injEq, hlen] at hv2
        obtain ⟨e1, _, rfl⟩ := hv2
        cases e1
        rw [take_set_next G [] k row hrow] at h4
        exact ⟨_, rfl, hcu, hfz, h4⟩
      have CG : Hid (wr.cell? ⟨g, k, none⟩ = some (.slice ar pp cr)) := by rw [← hrl]; exact cg
      have cg2 := CG.out
      have HRL := Lib.hid hrl
      have CC : Hid (Calls Tryz.prog 59 #[.slice ar pp cr] wr fun e w' => ∃ a' c', e = .returned (.slice a' pp c') ∧ Own.St B w0 w' (pRow 124 (a', c') row :: pRow 124 (ar, cr) row :: Qs)) := by
        have h := clonePages (n := row.length) hR (byteV_one _) (by omega)
        rw [hrl] at h
        refine h.mono ?_
        rintro e w' ⟨a', c', he, h'⟩
        refine ⟨a', c', he, ?_⟩
        unfold pRow
        rw [hrl]
        exact h'
      clear hrow hgd hrl hR put cg CG H HR hnn
      go_wp2_with (fail)
      refine CC.out.mono ?_
      clear CC cg2
      rintro e w2 ⟨a2, c2, rfl, h2⟩
      obtain ⟨_, _, ⟨u, cu⟩, fu, h3⟩ := PUT.out w2 a2 c2 h2
      rw [HRL.out] at h3
      have H3 := Lib.hid h3
      clear h2 h3 PUT
      go_wp2
      go_roundw
      case rel => exact ⟨k + 1, by omega, by go_num, H3.out⟩
      case measure => simp [intOf]; omega
    · obtain rfl : k = l := by omega
      have H2 : Hid (Own.St B w0 wr (PGrid 92 124 (.slice (some ⟨g1, 0, none⟩) k k) G :: PGrid 92 124 (.slice aV k cV) G :: Ps)) := by
        have h := H.out
        rw [← HL.out, List.take_of_length_le (by rw [← HL.out]; exact Nat.le_refl _), Nat.sub_self, List.replicate_zero, List.append_nil] at h
        exact h
      clear H
      go_wp2
      go_ret
      exact ⟨_, _, rfl, H2.out⟩
end Fla
end Go.Proofs.YtmdphcebmgcdbaaGreat
end
section
namespace Go.FlaM
theorem doOne_len (pp : Nat) (G : List (List Bs)) (a : Act) (e : Int) : (doOne pp G a e).length = G.length := by
  unfold doOne
  split
  · exact setPage_len _ _ _ _
  · exact clearTo_len _ _ _
theorem nowG_len (pp : Nat) : ∀ (L : List Act) (G : List (List Bs)), (nowG pp G L).length = G.length
  | [], _ => rfl
  | a :: L, G => (nowG_len pp L _).trans (doOne_len pp G a 128)
end Go.FlaM
namespace Go.Proofs.YtmdphcebmgcdbaaGreat
open Go.RowKit Go.Own
namespace Fla
open Go.FlaM Byt
abbrev intV (n : Nat) : Value := .int .i64 (n : Int)
structure Hidden where
  aN : Option Addr
  cN : Nat
  aS : Option Addr
  cS : Nat
  vP : Value
  vW : Value
  armed : Bool
  lf : Int
structure HRel (x : Hidden) (s : FS) : Prop where
  i64 : i64B x.lf
  on : s.off = false → (x.armed = true → x.lf = s.left) ∧ (x.armed = false → s.left = -1)
  pos : x.armed = true → 0 ≤ x.lf
abbrev gridT (v : Value) (G : List (List Bs)) : Asn := PGrid 92 124 v G
def flParts (p : Nat) (x : Hidden) (s : FS) : List Asn := [AVals p 91 (flCells s.pp (.slice x.aN s.safe.length x.cN) (.slice x.aS s.safe.length x.cS) x.vP x.vW s.n s.off x.armed x.lf), gridT (.slice x.aN s.safe.length x.cN) (nowG s.pp s.safe s.L), gridT (.slice x.aS s.safe.length x.cS) s.safe, ARow 143 131 x.vP s.L.length (s.L.flatMap opCells), ARow 3 1 x.vW s.wear.length (s.wear.map intV)]
def AFl (p : Nat) (s : FS) : Asn := AEx (α := { x : Hidden // HRel x s }) fun x => AJoin (flParts p x.1 s)
section
variable {B : Nat} {w0 w : World} {Ps : List Asn} {p : Nat} {s : FS}
theorem flOpen (H : Own.St B w0 w (AFl p s :: Ps)) : ∃ x, HRel x s ∧ Own.St B w0 w (flParts p x s ++ Ps) := by
  obtain ⟨⟨x, hx⟩, h⟩ := H.openE
  exact ⟨x, hx, h.openJ⟩
theorem flClose {x : Hidden} (hx : HRel x s) (H : Own.St B w0 w (flParts p x s ++ Ps)) : Own.St B w0 w (AFl p s :: Ps) :=
  St.closeE (α := { x : Hidden // HRel x s }) (P := fun x => AJoin (flParts p x.1 s)) ⟨x, hx⟩ H.closeJ
theorem segs_any {N : Nat} (H : Own.St B w0 w (AFl p s :: Ps)) (ok : Ok s N) : Calls Tryz.prog 37 #[ptr p] w fun e w' => e = .returned (errV s.safe.length) ∧ Below w.heap.size w w' := by
  obtain ⟨x, _, h⟩ := flOpen H
  have c1 := (h.cellV 0 rfl 1 rfl).1
  have := ok.segs
  go_enter Tryz.func37, Tryz.ntmps37
  go_wp2
  go_ret
  exact ⟨rfl, Below.refl _ _⟩
theorem pages_any (H : Own.St B w0 w (AFl p s :: Ps)) : Calls Tryz.prog 19 #[ptr p] w fun e w' => e = .returned (errV s.pp) ∧ Below w.heap.size w w' := by
  obtain ⟨x, _, h⟩ := flOpen H
  have c1 := (h.cellV 0 rfl 0 rfl).1
  go_enter Tryz.func19, Tryz.ntmps19
  go_wp2
  go_ret
  exact ⟨rfl, Below.refl _ _⟩
end
theorem nilProgram_any (seg page : Int) (v : Value) (w : World) : Calls Tryz.prog 42 #[.pointer none, .int .i64 seg, .int .i64 page, v] w fun e w' => e = .returned (errV 2) ∧ Below w.heap.size w w' := by
  go_enter Tryz.func42, Tryz.ntmps42
  go_wp2
  go_ret
  exact ⟨rfl, Below.refl _ _⟩
theorem nilErase_any (seg : Int) (w : World) : Calls Tryz.prog 97 #[.pointer none, .int .i64 seg] w fun e w' => e = .returned (errV 2) ∧ Below w.heap.size w w' := by
  go_enter Tryz.func97, Tryz.ntmps97
  go_wp2
  go_ret
  exact ⟨rfl, Below.refl _ _⟩
theorem nilBarrier_any (w : World) : Calls Tryz.prog 23 #[.pointer none] w fun e w' => e = .returned (errV 2) ∧ Below w.heap.size w w' := by
  go_enter Tryz.func23, Tryz.ntmps23
  go_wp2
  go_ret
  exact ⟨rfl, Below.refl _ _⟩
theorem nilRead_any (seg page : Int) (w : World) : Calls Tryz.prog 46 #[.pointer none, .int .i64 seg, .int .i64 page] w fun e w' => ∃ ao cap, e = .returned (.tuple #[.slice ao 0 cap, errV 2]) ∧ Below w.heap.size w w' := by
  go_enter Tryz.func46, Tryz.ntmps46
  go_wp2
  go_ret2
  exact ⟨none, 0, rfl, Below.refl _ _⟩
theorem nilSegs_any (w : World) : Calls Tryz.prog 37 #[.pointer none] w fun e w' => e = .returned (errV 0) ∧ Below w.heap.size w w' := by
  go_enter Tryz.func37, Tryz.ntmps37
  go_wp2
  go_ret
  exact ⟨rfl, Below.refl _ _⟩
theorem nilPages_any (w : World) : Calls Tryz.prog 19 #[.pointer none] w fun e w' => e = .returned (errV 0) ∧ Below w.heap.size w w' := by
  go_enter Tryz.func19, Tryz.ntmps19
  go_wp2
  go_ret
  exact ⟨rfl, Below.refl _ _⟩
end Fla
end Go.Proofs.YtmdphcebmgcdbaaGreat
end
section
namespace Go.Proofs.YtmdphcebmgcdbaaGreat
open Go.RowKit Go.Own
namespace Fla
open Go.FlaM Byt
theorem wpList_built {P : Program} {ops : Array Oper} {rest : List Oper} {o : Oper} {a : Go.Act} {w : World} {Q : Exit → Go.Act → World → Prop} (hgd : o.guard = none) (t : TypeId) (parts : Array (Nat × Operand)) (ho : o.op = .build t parts) (cells : Array Value)
    (hf : P.built t (parts.map fun (i, x) => (i, a.eval x)).toList = some cells) (h : wpList P ops Q rest (a.put o.dst (.agg cells)) w) : wpList P ops Q (o :: rest) a w := by
  refine wpList_plain hgd fun K hK => ?_
  have := run_build w t (parts.map fun (i, x) => (i, a.eval x)) cells hf
  unfold Oper.wp
  simp [execOp, ho, this, Result.andThen]
  exact hK _ _ h
theorem built_erase (k : Nat) : Tryz.prog.built 143 [(0, .bool true), (1, .int .i64 (k : Int))] = some (opCells ⟨k, -1, []⟩).toArray := by kernel_rfl
theorem built_prog0 (k q : Nat) (f : Nat → Value) : Tryz.prog.built 143 [(1, .int .i64 (k : Int)), (2, .int .i64 (q : Int)), (3, .agg ((List.range 128).map f).toArray)] = some (([.bool false, .int .i64 (k : Int), .int .i64 (q : Int)] : List Value) ++ ((List.range 128).map f)).toArray := by kernel_rfl
theorem built_prog (k q : Nat) (b : Bs) (hb : b.length = 128) : Tryz.prog.built 143 [(1, .int .i64 (k : Int)), (2, .int .i64 (q : Int)), (3, .agg (b.map byteV).toArray)] = some (opCells ⟨k, (q : Int), b⟩).toArray := by
  have h := built_prog0 k q (fun i => (b.map byteV).getD i undef)
  rw [range_map (b.map byteV) 128 (by simp [hb])] at h
  rw [h]
  unfold opCells wOf
  rw [if_neg (by show ¬ (q : Int) < 0; omega), decide_eq_false (by show ¬ (q : Int) < 0; omega)]
  rfl
theorem trip_off {x : Hidden} {s : FS} (hx : HRel x s) : (s.off || (x.armed && decide (x.lf = 0))) = (trip s).off := by
  unfold trip
  cases ho : s.off with
  | true => split <;> simp_all
  | false =>
    obtain ⟨h1, h2⟩ := hx.on ho
    cases ha : x.armed with
    | true =>
      have := h1 ha
      by_cases h0 : s.left = 0
      · rw [if_pos h0]; simp [this, h0]
      · rw [if_neg h0]; simp [this, h0, ho]
    | false =>
      have := h2 ha
      rw [if_neg (by omega)]; simp [ho]
section
variable {B : Nat} {w0 w : World} {Ps : List Asn} {p : Nat} {s : FS} {N : Nat}
theorem begin_fl {x : Hidden} (H : Own.St B w0 w (flParts p x s ++ Ps)) (hx : HRel x s) (ok : Ok s N) (hN : N ≤ 10000) :
    Calls Tryz.prog 43 #[ptr p] w fun e w' => if (trip s).off = true then e = .returned (errV 6) ∧ ∃ x', HRel x' (trip s) ∧ Own.St B w0 w' (flParts p x' (trip s) ++ Ps)
      else e = .returned (errV 0) ∧ ∃ x', HRel x' (okd (trip s)) ∧ Own.St B w0 w' (flParts p x' (okd (trip s)) ++ Ps) := by
  obtain ⟨e1, e2, e3, e4, e5⟩ := trip_safe s
  have hn := ok.n
  refine (begin_st (n := s.n) H (by omega) hx.i64 hx.pos).mono ?_
  intro e w' h
  rw [trip_off hx] at h
  by_cases ho : (trip s).off = true
  · rw [if_pos ho] at h ⊢
    refine ⟨h.1, x, ⟨hx.i64, fun h0 => (by rw [ho] at h0; cases h0), hx.pos⟩, ?_⟩
    have h2 := h.2
    unfold flParts
    rw [e1, e2, e3, e4, e5, ho]
    exact h2
  · rw [if_neg ho] at h ⊢
    have hoff : (trip s).off = false := by simpa using ho
    have hto := trip_off hx
    rw [hoff] at hto
    have hso : s.off = false := by
      cases h : s.off with
      | false => rfl
      | true => rw [h] at hto; simp at hto
    have hl0 : ¬ s.left = 0 := fun h0 => by unfold trip at hoff; rw [if_pos h0] at hoff; cases hoff
    have htr : trip s = s := by unfold trip; rw [if_neg hl0]
    obtain ⟨r1, r2⟩ := hx.on hso
    have hlb := ok.left
    have hxi := hx.i64
    refine ⟨h.1, { x with lf := if x.armed = true then x.lf - 1 else x.lf }, ⟨?_, fun _ => ⟨fun ha => ?_, fun ha => ?_⟩, fun ha => ?_⟩, ?_⟩
    · show i64B (if x.armed = true then x.lf - 1 else x.lf)
      split
      · rename_i ha
        have := hx.pos ha
        obtain ⟨q1, q2⟩ := hxi
        exact ⟨by omega, by omega⟩
      · exact hxi
    · have ha' : x.armed = true := ha
      have hpos := hx.pos ha'
      have := r1 ha'
      show (if x.armed = true then x.lf - 1 else x.lf) = (if 0 < (trip s).left then (trip s).left - 1 else (trip s).left)
      rw [htr, if_pos ha', if_pos (by omega), this]
    · have ha' : x.armed = false := ha
      have := r2 ha'
      show (if 0 < (trip s).left then (trip s).left - 1 else (trip s).left) = -1
      rw [htr, if_neg (by omega), this]
    · have ha' : x.armed = true := ha
      have := r1 ha'
      have := hx.pos ha'
      show 0 ≤ (if x.armed = true then x.lf - 1 else x.lf)
      rw [if_pos ha']
      omega
    · have h2 := h.2
      rw [htr]
      unfold flParts okd
      simp only
      rw [hso]
      exact h2
theorem perm_d {α : Type _} (a b c d : α) (r : List α) : (a :: b :: c :: d :: r).Perm (a :: b :: d :: c :: r) := ((List.Perm.swap d c r).cons b).cons a
theorem perm_s {α : Type _} (a b c d : α) (r : List α) : (a :: b :: c :: d :: r).Perm (a :: c :: d :: b :: r) := ((List.Perm.swap c b _).trans ((List.Perm.swap d b r).cons c)).cons a
theorem perform_fl {x : Hidden} (H : Own.St B w0 w (flParts p x s ++ Ps)) (hx : HRel x s) (hsh0 : Shape s.safe s.safe.length s.pp) (hsg : s.safe.length ≤ 256) (hpp : 1 ≤ s.pp ∧ s.pp ≤ 64) (hacts : ∀ a ∈ s.L, ActOk s.safe.length s.pp a) (a : FlaM.Act) (ha : ActOk s.safe.length s.pp a) (hL : s.L.length ≤ 10000) :
    Calls Tryz.prog 72 #[ptr p, .agg (opCells a).toArray] w fun e w' => e = .returned (.tuple #[]) ∧ Own.St B w0 w' (AFl p { s with L := s.L ++ [a] } :: Ps) := by
  have hsh := nowG_shape s.L s.safe hsh0 hacts
  refine (perform_st (nn := s.safe.length) (G := nowG s.pp s.safe s.L) (L := s.L) (H.perm (perm_d _ _ _ _ _)) hsh hsg hpp a ha hL).mono ?_
  rintro e w' ⟨he, vP', h⟩
  refine ⟨he, flClose (x := { x with vP := vP' }) ⟨hx.i64, hx.on, hx.pos⟩ ?_⟩
  have h2 := h.perm (perm_d _ _ _ _ _)
  unfold flParts
  show Own.St B w0 w' (_ :: gridT _ (nowG s.pp s.safe (s.L ++ [a])) :: _)
  rw [nowG_snoc, doOne_big hpp.2 _ a 128 9223372036854775807 (by decide) (by decide)]
  exact h2
set_option maxHeartbeats 1600000 in
theorem erase_any (H : Own.St B w0 w (AFl p s :: Ps)) (ok : Ok s N) (hN : N ≤ 10000) (seg : Int) (hseg : i64B seg) :
    Calls Tryz.prog 97 #[ptr p, .int .i64 seg] w fun e w' => e = .returned (errV (erase s seg).2) ∧ Own.St B w0 w' (AFl p (erase s seg).1 :: Ps) := by
  obtain ⟨x, hx, h⟩ := flOpen H
  have HS := Lib.hid (hasSeg_st h seg)
  have H0 := Lib.hid H
  have HB := Lib.hid (begin_fl h hx ok hN)
  have hpp := ok.pp
  have hdec : there s seg 0 = decide (0 ≤ seg ∧ seg < (s.safe.length : Int)) := by unfold there; congr 1; apply propext; constructor <;> omega
  by_cases hin : 0 ≤ seg ∧ seg < (s.safe.length : Int)
  · have ht : there s seg 0 = true := by rw [hdec, decide_eq_true hin]
    rw [decide_eq_true hin] at HS
    by_cases ho : (trip s).off = true
    · have HE : Hid (erase s seg = (trip s, 6)) := by
        show erase s seg = (trip s, 6)
        unfold erase
        rw [if_neg (by rw [ht]; decide), if_pos ho]
      have HB2 : Hid (Calls Tryz.prog 43 #[ptr p] w fun e w' => e = .returned (errV 6) ∧ Own.St B w0 w' (AFl p (trip s) :: Ps)) := by
        refine HB.out.mono ?_
        intro e w' h'
        rw [if_pos ho] at h'
        obtain ⟨he, x', hx', h2⟩ := h'
        exact ⟨he, flClose hx' h2⟩
      rw [HE.out]
      clear hin hdec ht ho H h HB hpp ok hx
      go_enter Tryz.func97, Tryz.ntmps97
      go_wp2_with (fail)
      refine HS.out.mono ?_
      rintro e w1 ⟨rfl, rfl⟩
      clear HS
      go_wp2_with (fail)
      refine HB2.out.mono ?_
      clear HB2
      rintro e w2 ⟨rfl, h2⟩
      have H2 := Lib.hid h2
      clear h2
      go_wp2
      go_ret
      exact ⟨rfl, H2.out⟩
    · obtain ⟨k, hk⟩ : ∃ k : Nat, seg = (k : Int) := ⟨seg.toNat, by omega⟩
      subst hk
      have HE : Hid (erase s (k : Int) = ({ okd (trip s) with L := (okd (trip s)).L ++ [⟨k, -1, []⟩], wear := bump (okd (trip s)).wear k }, 0)) := by
        show erase s (k : Int) = _
        unfold erase
        rw [if_neg (by rw [ht]; decide), if_neg ho]
        rfl
      have okt : Ok (okd (trip s)) (N + 1) := by
        have g := ok_trip ok
        exact ⟨g.segs, g.pp, g.rows, g.pages, g.wear, g.acts, left_okd _ g.left, Nat.succ_le_succ g.n, Nat.le_succ_of_le g.log, fun i => Nat.le_succ_of_le (g.worn i)⟩
      have hsl : (okd (trip s)).safe.length = s.safe.length := by show (trip s).safe.length = _; rw [(trip_safe s).1]
      obtain ⟨t, htt⟩ : ∃ t, t = okd (trip s) := ⟨_, rfl⟩
      rw [← htt] at HE okt hsl
      have HB2 : Hid (Calls Tryz.prog 43 #[ptr p] w fun e w' => e = .returned (errV 0) ∧ ∃ x', HRel x' t ∧ Own.St B w0 w' (flParts p x' t ++ Ps)) := by
        refine HB.out.mono ?_
        intro e w' h'
        rw [if_neg ho, ← htt] at h'
        exact h'
      have HOK := Lib.hid okt
      have hkl : k < t.safe.length := by omega
      have hlog : t.L.length ≤ 10000 := by rw [htt]; show (trip s).L.length ≤ _; rw [(trip_safe s).2.1]; have := ok.log; have := ok.n; omega
      rw [HE.out]
      clear hin hdec ht ho H h HB hpp ok hx htt hsl okt
      go_enter Tryz.func97, Tryz.ntmps97
      go_wp2_with (fail)
      refine HS.out.mono ?_
      rintro e w1 ⟨rfl, rfl⟩
      clear HS
      go_wp2_with (fail)
      refine HB2.out.mono ?_
      clear HB2
      rintro e w2 ⟨rfl, x', hx', h2⟩
      have hwl := HOK.out.wear
      obtain ⟨aW, cW, hW⟩ := h2.rowForm 4 rfl
      have c4 := (h2.cellV 0 rfl 4 rfl).1
      rw [hW] at c4
      have h4 : (flParts p x' t ++ Ps)[4]? = some (ARow 3 1 (.slice aW t.wear.length cW) t.wear.length (t.wear.map intV)) := by rw [← hW]; rfl
      obtain ⟨g, rfl, ⟨u, hu, cu⟩, fu, put⟩ := h2.rowAt 4 h4 k (by omega)
      obtain ⟨q, hq⟩ : ∃ q, t.wear[k]? = some q := ⟨_, List.getElem?_eq_getElem (by omega)⟩
      rw [List.getElem?_map, hq] at hu
      cases hu
      have hqn : q ≤ 10001 := by
        have h1 := HOK.out.worn k
        rw [List.getD_eq_getElem?_getD, hq] at h1
        have h2 := HOK.out.n
        exact Nat.le_trans h1 (by omega)
      obtain ⟨q1, hq1⟩ : ∃ x, q + 1 = x := ⟨_, rfl⟩
      have hqi : (q : Int) + 1 = (q1 : Int) := by omega
      have PF : Hid (∀ (wx : World), wx = w2.setCell ⟨g, k, none⟩ (intV q1) → Calls Tryz.prog 72 #[ptr p, .agg (opCells ⟨k, -1, []⟩).toArray] wx fun e w' => e = .returned (.tuple #[]) ∧ Own.St B w0 w' (AFl p { t with L := t.L ++ [⟨k, -1, []⟩], wear := bump t.wear k } :: Ps)) := by
        intro wx hwx
        subst hwx
        have hst : Own.St B w0 (w2.setCell ⟨g, k, none⟩ (intV q1)) (flParts p x' { t with wear := bump t.wear k } ++ Ps) := by
          have h5 := put (intV q1)
          have e1 : (flParts p x' t ++ Ps).set 4 (ARow 3 1 (.slice (some ⟨g, 0, none⟩) t.wear.length cW) t.wear.length ((t.wear.map intV).set k (intV q1))) = flParts p x' { t with wear := bump t.wear k } ++ Ps := by
            unfold flParts
            simp only [List.cons_append, List.nil_append, List.set_cons_succ, List.set_cons_zero]
            have e2 : bump t.wear k = t.wear.set k q1 := by unfold bump; rw [List.getD_eq_getElem?_getD, hq]; simp [hq1]
            rw [e2, List.length_set, List.map_set, ← hW]
          rw [e1] at h5
          exact h5
        exact perform_fl (s := { t with wear := bump t.wear k }) hst ⟨hx'.i64, hx'.on, hx'.pos⟩ HOK.out.shape HOK.out.segs HOK.out.pp HOK.out.acts ⟨k, -1, []⟩ ⟨hkl, .inr ⟨rfl, rfl⟩⟩ hlog
      obtain ⟨nW, hnW⟩ : ∃ n, n = t.wear.length := ⟨_, rfl⟩
      rw [← hnW] at c4
      have hkn : k < nW := by rw [hnW, hwl]; exact hkl
      clear put h4 hW hq h2 hnW hwl hq1 hx'
      obtain ⟨cs, hcs⟩ : ∃ c, c = opCells ⟨k, -1, []⟩ := ⟨_, rfl⟩
      have BE : Hid (Tryz.prog.built 143 [(0, .bool true), (1, .int .i64 (k : Int))] = some cs.toArray) := by rw [hcs]; exact built_erase k
      rw [← hcs] at PF
      clear hcs
      go_wp2_with (refine Fla.wpList_built rfl 143 #[(0, .const (.bool true)), (1, .tmp 27)] rfl cs.toArray ?_ ?_; · (simp only [List.map_toArray, List.map_cons, List.map_nil, List.toList_toArray]; exact BE.out))
      refine (PF.out _ rfl).mono ?_
      clear PF BE
      rintro e w3 ⟨rfl, h3⟩
      have H3 := Lib.hid h3
      clear h3
      go_wp2
      go_ret
      exact ⟨rfl, H3.out⟩
  · have ht : there s seg 0 = false := by rw [hdec, decide_eq_false hin]
    rw [decide_eq_false hin] at HS
    have HE : Hid (erase s seg = (s, 1)) := by
      show erase s seg = (s, 1)
      unfold erase
      rw [if_pos ht]
    rw [HE.out]
    clear hin hdec ht H h HB hpp ok hx
    go_enter Tryz.func97, Tryz.ntmps97
    go_wp2_with (fail)
    refine HS.out.mono ?_
    rintro e w1 ⟨rfl, rfl⟩
    clear HS
    go_wp2
    go_ret
    exact ⟨rfl, H0.out⟩
end
end Fla
end Go.Proofs.YtmdphcebmgcdbaaGreat
end
section
namespace Go.Proofs.YtmdphcebmgcdbaaGreat
open Go.RowKit Go.Own
namespace Fla
open Go.FlaM Byt
theorem whole_any (i : Int) (w : World) : Calls Tryz.prog 45 #[.int .i64 i] w fun e w' => e = .returned (.int .i64 9223372036854775807) ∧ Below w.heap.size w w' := by
  go_enter Tryz.func45, Tryz.ntmps45
  go_wp2
  go_ret
  exact ⟨rfl, Below.refl _ _⟩
section
variable {B : Nat} {w0 w : World} {Ps : List Asn} {p : Nat} {s : FS} {N : Nat}
theorem settle_fl {x : Hidden} (H : Own.St B w0 w (flParts p x s ++ Ps)) (hsh : Shape s.safe s.safe.length s.pp) (hsg : s.safe.length ≤ 256) (hpp : 1 ≤ s.pp ∧ s.pp ≤ 64) (hacts : ∀ a ∈ s.L, ActOk s.safe.length s.pp a) (hL : s.L.length ≤ 10000)
    (f : FuncId) (caps : Array Value) (φ : Nat → Int) (hφ : ∀ i, i64B (φ i)) (hent : ∀ (args : Array Value) w, (callFunc f args).run Tryz.prog w = .ok (.enter f args) w)
    (hf : ∀ (i : Nat) (wx : World) (Xs : List Asn), i < s.L.length → Own.St B w0 wx (Xs ++ (gridT (.slice x.aN s.safe.length x.cN) (nowG s.pp s.safe s.L) :: ARow 3 1 x.vW s.wear.length (s.wear.map intV) :: Ps)) → Calls Tryz.prog f (#[.int .i64 (i : Int)] ++ caps) wx fun e w' => e = .returned (.int .i64 (φ i)) ∧ Below wx.heap.size wx w') :
    Calls Tryz.prog 44 #[ptr p, .func (.func f) #[] caps] w fun e w' => e = .returned (.tuple #[]) ∧ Own.St B w0 w' (AVals p 91 (flCells s.pp (.slice x.aN s.safe.length x.cN) (.slice x.aS s.safe.length x.cS) (.slice none 0 0) x.vW s.n s.off x.armed x.lf) :: gridT (.slice x.aS s.safe.length x.cS) (doAllF s.pp φ s.safe 0 s.L) :: ARow 143 131 (.slice none 0 0) 0 [] :: gridT (.slice x.aN s.safe.length x.cN) (nowG s.pp s.safe s.L) :: ARow 3 1 x.vW s.wear.length (s.wear.map intV) :: Ps) :=
  settle_st (nn := s.safe.length) (G := s.safe) (L := s.L) f caps φ (H.perm (perm_s _ _ _ _ _)) hsh hsg hpp hacts hL hφ hent hf
theorem perm_s' {α : Type _} (a b c d : α) (r : List α) : (a :: b :: c :: d :: r).Perm (a :: d :: b :: c :: r) := (perm_s a d b c r).symm
set_option maxHeartbeats 800000 in
theorem barrier_any (H : Own.St B w0 w (AFl p s :: Ps)) (ok : Ok s N) (hN : N ≤ 10000) :
    Calls Tryz.prog 23 #[ptr p] w fun e w' => e = .returned (errV (barrier s).2) ∧ Own.St B w0 w' (AFl p (barrier s).1 :: Ps) := by
  obtain ⟨x, hx, h⟩ := flOpen H
  have HB := Lib.hid (begin_fl h hx ok hN)
  by_cases ho : (trip s).off = true
  · have HE : Hid (barrier s = (trip s, 6)) := by
      show barrier s = (trip s, 6)
      unfold barrier
      rw [if_pos ho]
    have HB2 : Hid (Calls Tryz.prog 43 #[ptr p] w fun e w' => e = .returned (errV 6) ∧ Own.St B w0 w' (AFl p (trip s) :: Ps)) := by
      refine HB.out.mono ?_
      intro e w' h'
      rw [if_pos ho] at h'
      obtain ⟨he, x', hx', h2⟩ := h'
      exact ⟨he, flClose hx' h2⟩
    rw [HE.out]
    clear ho H h HB ok hx
    go_enter Tryz.func23, Tryz.ntmps23
    go_wp2_with (fail)
    refine HB2.out.mono ?_
    clear HB2
    rintro e w2 ⟨rfl, h2⟩
    have H2 := Lib.hid h2
    clear h2
    go_wp2
    go_ret
    exact ⟨rfl, H2.out⟩
  · obtain ⟨t, htt⟩ : ∃ t, t = okd (trip s) := ⟨_, rfl⟩
    have HB2 : Hid (Calls Tryz.prog 43 #[ptr p] w fun e w' => e = .returned (errV 0) ∧ ∃ x', HRel x' t ∧ Own.St B w0 w' (flParts p x' t ++ Ps)) := by
      refine HB.out.mono ?_
      intro e w' h'
      rw [if_neg ho, ← htt] at h'
      exact h'
    have g := ok_trip ok
    have hsh : Shape t.safe t.safe.length t.pp := by rw [htt]; exact g.shape
    have hsg : t.safe.length ≤ 256 := by rw [htt]; exact g.segs
    have hpp : 1 ≤ t.pp ∧ t.pp ≤ 64 := by rw [htt]; exact g.pp
    have hacts : ∀ a ∈ t.L, ActOk t.safe.length t.pp a := by rw [htt]; exact g.acts
    have hL : t.L.length ≤ 10000 := by rw [htt]; show (trip s).L.length ≤ _; rw [(trip_safe s).2.1]; have := ok.log; have := ok.n; omega
    have HE : Hid (barrier s = ({ t with safe := nowG t.pp t.safe t.L, L := [] }, 0)) := by
      show barrier s = _
      unfold barrier
      rw [if_neg ho, htt]
      unfold some' okd
      simp only
      rw [doAll_whole _ _ _ 0 (fun j hj => by rw [Nat.zero_add]; simp [List.getD, hj])]
    have SET : Hid (∀ (wx : World) (x' : Hidden), HRel x' t → Own.St B w0 wx (flParts p x' t ++ Ps) → Calls Tryz.prog 44 #[ptr p, .func (.func 45) #[] #[]] wx fun e w' => e = .returned (.tuple #[]) ∧ Own.St B w0 w' (AFl p { t with safe := nowG t.pp t.safe t.L, L := [] } :: Ps)) := by
      intro wx x' hx' hst
      refine (settle_fl hst hsh hsg hpp hacts hL 45 #[] (fun _ => 9223372036854775807) (fun _ => by unfold i64B; omega) (fun _ _ => by simp [go_sem]) (fun i wy _ _ _ => whole_any i wy)).mono ?_
      rintro e w' ⟨he, h'⟩
      refine ⟨he, flClose (x := { x' with vP := .slice none 0 0 }) ⟨hx'.i64, hx'.on, hx'.pos⟩ ?_⟩
      rw [doAllF_big hpp.2 _ (fun _ => by decide)] at h'
      have h2 := h'.perm (perm_s' _ _ _ _ _)
      unfold flParts
      simp only [nowG_len]
      exact h2
    rw [HE.out]
    clear ho H h HB ok hx htt g hsh hsg hpp hacts hL
    go_enter Tryz.func23, Tryz.ntmps23
    go_wp2_with (fail)
    refine HB2.out.mono ?_
    clear HB2
    rintro e w2 ⟨rfl, x', hx', h2⟩
    have S2 := Lib.hid (SET.out w2 x' hx' h2)
    clear h2 SET hx'
    go_wp2_with (fail)
    refine S2.out.mono ?_
    clear S2
    rintro e w3 ⟨rfl, h3⟩
    have H3 := Lib.hid h3
    clear h3
    go_wp2
    go_ret
    exact ⟨rfl, H3.out⟩
end
end Fla
end Go.Proofs.YtmdphcebmgcdbaaGreat
end
