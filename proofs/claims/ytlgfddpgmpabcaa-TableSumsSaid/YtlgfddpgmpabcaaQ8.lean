/- Merged: SrtI SrtJ TbaH TbaI TbaX -/
import Derived.Sort.Walk13a
import Derived.Deep.LoopGhost
import Derived.Deep.CutRange
import Derived.Test.YtlgfddpgmpabcaaQ4
import Derived.Test.YtlgfddpgmpabcaaQ5
import Derived.Test.YtlgfddpgmpabcaaQ6
import Derived.Test.YtlgfddpgmpabcaaQ7
section
namespace Go.Proofs.Ytlgfddpgmpabcaa
open Go.RowKit Go.Own
namespace Srt
section
variable {f : FuncId} {bs cb : Array Value} {cf : Nat → Nat → Int} {Ok : Nat → Prop} {B : Nat} {w0 w : World} {Ts Rs : List Asn} {g n c : Nat} {d : Array Nat}
def PdqAt (f : FuncId) (bs cb : Array Value) (cf : Nat → Nat → Int) (Ok : Nat → Prop) (B : Nat) (w0 : World) (Ts : List Asn) (g n c : Nat) (Rs : List Asn) (m : Nat) : Prop :=
  ∀ (w : World) (d : Array Nat) (a b limit : Nat), Sd Ok B w0 Ts g n c Rs w d → a ≤ b → b ≤ n → b - a ≤ m → limit ≤ 1000 → Sort.Below (ltc cf) a b d →
    Calls Try.prog 45 #[.slice (some ⟨g, 0, none⟩) n c, .int .i64 (a : Int), .int .i64 (b : Int), .int .i64 (limit : Int), fvOf f bs cb] w fun e w' => e = .returned (.tuple #[]) ∧ Sd Ok B w0 Ts g n c Rs w' (Sort.pdq (ltc cf) d a b limit true true)
set_option maxRecDepth 6000 in
set_option maxHeartbeats 40000000 in
theorem pdq_step (K : Cmp f bs cb cf Ok B w0 Ts) (hO : Sort.SWO (ltc cf)) (hn : n ≤ 100000) (m : Nat) (ih : ∀ k, k < m → PdqAt f bs cb cf Ok B w0 Ts g n c Rs k) : PdqAt f bs cb cf Ok B w0 Ts g n c Rs m := by
  intro w d a b limit S hab hbn hbm hlim hB
  have HS := Lib.hid S
  have HO := Lib.hid hO
  have ENT := Lib.hid K.ent
  have IH := Lib.hid ih
  have HB0 := Lib.hid hB
  have KS := Lib.hid (fun (w : World) (d : Array Nat) (S : Sd Ok B w0 Ts g n c Rs w d) (a b : Nat) (h1 : a ≤ b) (h2 : b ≤ n) => insertion_any K S a b h1 h2 (by omega))
  have KH := Lib.hid (fun (w : World) (d : Array Nat) (S : Sd Ok B w0 Ts g n c Rs w d) (a b : Nat) (h1 : a < b) (h2 : b ≤ n) => heap_any K S a b h1 h2 hn)
  have KB := Lib.hid (fun (w : World) (d : Array Nat) (S : Sd Ok B w0 Ts g n c Rs w d) (a b : Nat) (h1 : a + 12 < b) (h2 : b ≤ n) => break_any S a b h1 h2 hn (fvOf f bs cb))
  have KC := Lib.hid (fun (w : World) (d : Array Nat) (S : Sd Ok B w0 Ts g n c Rs w d) (a b : Nat) (h1 : a + 12 < b) (h2 : b ≤ n) => choose_any K S a b h1 h2 hn)
  have KR := Lib.hid (fun (w : World) (d : Array Nat) (S : Sd Ok B w0 Ts g n c Rs w d) (a b : Nat) (h1 : a ≤ b) (h2 : b ≤ n) => reverse_any S a b h1 h2 (by omega) (fvOf f bs cb))
  have KI := Lib.hid (fun (w : World) (d : Array Nat) (S : Sd Ok B w0 Ts g n c Rs w d) (a b : Nat) (h1 : a + 12 < b) (h2 : b ≤ n) => partialIns_any K S a b h1 h2 hn)
  have KE := Lib.hid (fun (w : World) (d : Array Nat) (S : Sd Ok B w0 Ts g n c Rs w d) (a b p : Nat) (h1 : a ≤ p) (h2 : p < b) (h3 : b ≤ n) => partEq_any K S a b p h1 h2 h3 hn)
  have KP := Lib.hid (fun (w : World) (d : Array Nat) (S : Sd Ok B w0 Ts g n c Rs w d) (a b p : Nat) (h1 : a ≤ p) (h2 : p < b) (h3 : b ≤ n) => part_any K S a b p h1 h2 h3 hn)
  obtain ⟨R, hR⟩ : ∃ R, R = Sort.pdq (ltc cf) d a b limit true true := ⟨_, rfl⟩
  rw [← hR]
  have HR0 := Lib.hid hR.symm
  clear S hR hO ih hB
  go_enter Try.func45, Try.ntmps45
  go_wp2
  go_loopg [1, 2, 3, 10, 11] (b - a) (fun gk v1 v2 v3 v10 v11 wr => ∃ (a b lim : Nat) (wb wp : Bool) (dk : Array Nat), v1 = .int .i64 (a : Int) ∧ v2 = .int .i64 (b : Int) ∧ v3 = .int .i64 (lim : Int) ∧ v10 = .bool wb ∧ v11 = .bool wp ∧ a ≤ b ∧ b ≤ n ∧ b - a ≤ gk ∧ b - a ≤ m ∧ lim ≤ 1000 ∧ Sort.Below (ltc cf) a b dk ∧ Sd Ok B w0 Ts g n c Rs wr dk ∧ Sort.pdq (ltc cf) dk a b lim wb wp = R)
  case atStart => exact ⟨a, b, limit, true, true, d, rfl, rfl, rfl, rfl, rfl, hab, hbn, Nat.le_refl _, hbm, hlim, HB0.out, HS.out, HR0.out⟩
  case round =>
    clear hab hbn hbm hlim HB0
    obtain ⟨a, b, lim, wb, wp, dk, rfl, rfl, rfl, rfl, rfl, hab, hbn, hgk, hbm, hlim, hB, hs, heq⟩ := hrel
    have HK := Lib.hid hs
    have HE := Lib.hid heq
    have HBL := Lib.hid hB
    clear hs heq hB HS HR0
    obtain ⟨l, hl⟩ : ∃ l, l = b - a := ⟨_, rfl⟩
    have hlI : (b : Int) - (a : Int) = (l : Int) := by omega
    have hlb : l ≤ 100000 := by omega
    have HLE := Lib.hid hl
    clear hl
    by_cases h12 : l ≤ 12
    · have h12I : (l : Int) ≤ 12 := by omega
      have HRR : Hid (R = Sort.insertionSort (ltc cf) dk a b) := by show _ = _; rw [← HE.out]; exact Sort.pdq_small (by rw [← HLE.out]; exact h12)
      have CC := Lib.hid (KS.out _ _ HK.out a b hab hbn)
      rw [← HRR.out] at CC
      clear HE
      go_wp2_with (fail)
      refine CC.out.mono ?_
      clear CC
      rintro e w1 ⟨rfl, h⟩
      have S1 := Lib.hid h
      clear h
      go_wp2
      refine bodyPost_ret (results_none rfl _ _ _) rfl ?_
      exact ⟨rfl, S1.out⟩
    · have h12I : ¬ (l : Int) ≤ 12 := by omega
      by_cases hl0 : lim = 0
      · subst hl0
        have HRR : Hid (R = Sort.heapSort (ltc cf) dk a b) := by show _ = _; rw [← HE.out]; exact Sort.pdq_heap (by rw [← HLE.out]; exact h12) rfl
        have CC := Lib.hid (KH.out _ _ HK.out a b (by have := HLE.out; omega) hbn)
        rw [← HRR.out] at CC
        clear HE
        go_wp2_with (fail)
        refine CC.out.mono ?_
        clear CC
        rintro e w1 ⟨rfl, h⟩
        have S1 := Lib.hid h
        clear h
        go_wp2
        refine bodyPost_ret (results_none rfl _ _ _) rfl ?_
        exact ⟨rfl, S1.out⟩
      · have hl0I : ((lim : Int) == 0) = false := by simp; omega
        have hal : a + l = b := by have := HLE.out; omega
        have hl13 : 13 ≤ l := by omega
        obtain ⟨r, hr⟩ : ∃ r, r = Sort.rd (ltc cf) dk a b lim wb wp := ⟨_, rfl⟩
        have FF := Sort.rd_facts (lt := ltc cf) (limit := lim) (wb := wb) (wp := wp) HO.out Sort.partialInsertionSort_holds Sort.reverseRange_holds (show a < b by omega) (show b ≤ dk.size by rw [HK.out.size]; exact hbn) HBL.out
        rw [← hr] at FF
        obtain ⟨s1, _, hc1, s2, _, hpv, s3, hbp⟩ := FF
        have BPI := Lib.hid hbp
        obtain ⟨pv, hpve⟩ : ∃ p, p = r.pivot := ⟨_, rfl⟩
        rw [← hpve] at hpv
        obtain ⟨hpa, hpb⟩ := hpv
        obtain ⟨hca, hcb⟩ := hc1
        have hpvn : pv < n := by omega
        have hN12 : ¬ b - a ≤ 12 := by omega
        have HDONE : Hid (r.pi.2 = true → R = r.pi.1) := fun h => by rw [← HE.out, hr]; exact Sort.pdq_done hN12 hl0 (by rw [← hr]; exact h)
        have HEQ0 : Hid (r.pi.2 = false → (decide (a > 0) && !ltc cf r.pi.1[a - 1]! r.pi.1[pv]!) = true → a < (Sort.partitionEqual (ltc cf) r.pi.1 a b pv).1 ∧ (Sort.partitionEqual (ltc cf) r.pi.1 a b pv).1 ≤ b → R = Sort.pdq (ltc cf) (Sort.partitionEqual (ltc cf) r.pi.1 a b pv).2 (Sort.partitionEqual (ltc cf) r.pi.1 a b pv).1 b r.lim wb wp) := fun h1 h2 h3 => by
          rw [← HE.out]; rw [hpve, hr] at h2 h3; rw [hr] at h1; rw [hpve, hr]; exact Sort.pdq_eq hN12 hl0 h1 h2 h3
        have HPA0 : Hid (r.pi.2 = false → (decide (a > 0) && !ltc cf r.pi.1[a - 1]! r.pi.1[pv]!) = false → a ≤ (Sort.partition (ltc cf) r.pi.1 a b pv).1 ∧ (Sort.partition (ltc cf) r.pi.1 a b pv).1 < b →
            (((Sort.partition (ltc cf) r.pi.1 a b pv).1 - a < b - (Sort.partition (ltc cf) r.pi.1 a b pv).1 → R = Sort.pdq (ltc cf) (Sort.pdq (ltc cf) (Sort.partition (ltc cf) r.pi.1 a b pv).2.2 a (Sort.partition (ltc cf) r.pi.1 a b pv).1 r.lim true true) ((Sort.partition (ltc cf) r.pi.1 a b pv).1 + 1) b r.lim (decide ((Sort.partition (ltc cf) r.pi.1 a b pv).1 - a ≥ (b - a) / 8)) (Sort.partition (ltc cf) r.pi.1 a b pv).2.1) ∧
            (¬ (Sort.partition (ltc cf) r.pi.1 a b pv).1 - a < b - (Sort.partition (ltc cf) r.pi.1 a b pv).1 → R = Sort.pdq (ltc cf) (Sort.pdq (ltc cf) (Sort.partition (ltc cf) r.pi.1 a b pv).2.2 ((Sort.partition (ltc cf) r.pi.1 a b pv).1 + 1) b r.lim true true) a (Sort.partition (ltc cf) r.pi.1 a b pv).1 r.lim (decide (b - (Sort.partition (ltc cf) r.pi.1 a b pv).1 ≥ (b - a) / 8)) (Sort.partition (ltc cf) r.pi.1 a b pv).2.1))) := fun h1 h2 h3 => by
          rw [← HE.out]; rw [hpve, hr] at h2 h3; rw [hr] at h1; rw [hpve, hr]; exact ⟨fun h4 => Sort.pdq_left hN12 hl0 h1 h2 h3 h4, fun h4 => Sort.pdq_right hN12 hl0 h1 h2 h3 h4⟩
        have HPV := Lib.hid hpve
        have HRD := Lib.hid hr
        have hpvb : pv ≤ 100000 := by omega
        clear hbp HE s1 s2 s3 HBL hpve hr
        obtain ⟨lim2, hlim2e⟩ : ∃ x, x = r.lim := ⟨_, rfl⟩
        have hlim2 : lim2 ≤ 1000 := by rw [hlim2e, HRD.out]; exact Nat.le_trans Sort.rd_lim_le hlim
        have HLIM : Hid (r.lim = lim2) := hlim2e.symm
        clear hlim2e
        go_upto_if 39 with (fail)
        go_cut [3] from 21 to 147 (fun s3 wx => s3 = .int .i64 (lim2 : Int) ∧ Sd Ok B w0 Ts g n c Rs wx r.d1)
        case first =>
          cases wb with
          | false =>
            have hlimI : (lim : Int) - 1 = (lim2 : Int) := by have e := HLIM.out; rw [HRD.out] at e; have e2 : lim - 1 = lim2 := e; omega
            have BC := Lib.hid (KB.out _ _ HK.out a b (by omega) hbn)
            have hd1 : Sort.breakPatterns dk a b = r.d1 := by rw [HRD.out]; rfl
            rw [hd1] at BC
            clear hd1 hl0
            go_wp2_with (fail)
            refine BC.out.mono ?_
            clear BC
            rintro e w1 ⟨rfl, h⟩
            have S1 := Lib.hid h
            clear h
            go_wp2
            go_meet
            case rel => exact ⟨(by first | rfl | go_num), S1.out⟩
          | true =>
            have hle : lim = lim2 := by have e := HLIM.out; rw [HRD.out] at e; exact e
            have hd1 : r.d1 = dk := by rw [HRD.out]; rfl
            have S1 := Lib.hid (HK.out.eqd hd1)
            have HLL := Lib.hid hle
            clear hd1 hl0 hle
            go_wp2
            go_meet
            case rel => exact ⟨by rw [HLL.out], S1.out⟩
        case rest =>
          obtain ⟨rfl, hs1⟩ := hcut
          have S1 := Lib.hid hs1
          clear hs1 HK hl0I hl0
          have CC := Lib.hid (KC.out _ _ S1.out a b (by omega) hbn)
          have hcc : Sort.choosePivot (ltc cf) r.d1 a b = r.c := by rw [HRD.out]; rfl
          rw [hcc] at CC
          obtain ⟨c0, hc0⟩ : ∃ x, x = r.c.1 := ⟨_, rfl⟩
          obtain ⟨hv, hhv⟩ : ∃ x, hintV r.c.2 = .int .i64 x := by cases r.c.2 <;> exact ⟨_, rfl⟩
          obtain ⟨hh, hhh⟩ : ∃ x, hintV r.hint = .int .i64 x := by cases r.hint <;> exact ⟨_, rfl⟩
          rw [← hc0, hhv] at CC
          have HHV := Lib.hid hhv
          have HHH := Lib.hid hhh
          have HC0 := Lib.hid hc0
          rw [← hc0] at hca hcb
          clear hcc hhv hhh hc0
          go_wp2_with (fail)
          refine CC.out.mono ?_
          clear CC
          rintro e w2 ⟨rfl, h⟩
          have S2 := Lib.hid h
          clear h
          go_upto_if 56 with (fail)
          go_cut [13, 14] from 21 to 147 (fun s13 s14 wx => s13 = .int .i64 (pv : Int) ∧ s14 = .int .i64 hh ∧ Sd Ok B w0 Ts g n c Rs wx r.d2)
          case first =>
            by_cases hdec : r.c.2 = .decreasing
            · obtain rfl : hv = 2 := by have hhv := HHV.out; rw [hdec] at hhv; cases hhv; rfl
              obtain ⟨e2, epv, eht⟩ := Sort.rd_dec (lt := ltc cf) (d := dk) (a := a) (b := b) (limit := lim) (wb := wb) (wp := wp) (by rw [← HRD.out]; exact hdec)
              rw [← HRD.out] at e2 epv eht
              have RC := Lib.hid (KR.out _ _ S2.out a b (by omega) hbn)
              rw [← e2] at RC
              have hpvI : (b : Int) - 1 - ((c0 : Int) - (a : Int)) = (pv : Int) := by have := HPV.out; have := HC0.out; omega
              have hh1 : hh = 1 := by have e := HHH.out; rw [eht] at e; cases e; rfl
              have hc1' : (a : Int) ≤ (c0 : Int) := by omega
              have hc2' : (c0 : Int) < (b : Int) := by omega
              have HH1 := Lib.hid hh1
              clear hdec e2 epv eht hh1
              go_wp2_with (fail)
              refine RC.out.mono ?_
              clear RC
              rintro e w3 ⟨rfl, h⟩
              have S3 := Lib.hid h
              clear h
              go_wp2
              go_meet
              case rel => exact ⟨(by first | rfl | go_num), by rw [HH1.out], S3.out⟩
            · have hv2 : (hv == 2) = false := by
                have hhv := HHV.out
                cases hcc : r.c.2 with
                | unknown => rw [hcc] at hhv; cases hhv; rfl
                | increasing => rw [hcc] at hhv; cases hhv; rfl
                | decreasing => exact absurd hcc hdec
              obtain ⟨e2, epv, eht⟩ := Sort.rd_not (lt := ltc cf) (d := dk) (a := a) (b := b) (limit := lim) (wb := wb) (wp := wp) (by rw [← HRD.out]; exact hdec)
              rw [← HRD.out] at e2 epv eht
              have HP : Hid (pv = c0) := by show _ = _; have := HPV.out; have := HC0.out; omega
              have HVH : Hid (hv = hh) := by show _ = _; have e1 := HHV.out; have e3 := HHH.out; rw [eht, e1] at e3; cases e3; rfl
              have S3 := Lib.hid (S2.out.eqd e2)
              clear hdec e2 epv eht
              go_wp2
              go_meet
              case rel => exact ⟨by rw [HP.out], by rw [HVH.out], S3.out⟩
          case rest =>
            obtain ⟨rfl, rfl, hs2⟩ := hcut
            have S2 := Lib.hid hs2
            clear hs2
            obtain ⟨q, hq⟩ : ∃ q, q = (wb && wp && decide (r.hint = .increasing)) := ⟨_, rfl⟩
            have HQ := Lib.hid hq
            clear hq
            go_upto_region 15 with (fail)
            go_cut [75] from 21 to 147 (fun s75 wx => s75 = .bool q ∧ Sd Ok B w0 Ts g n c Rs wx r.d2)
            case first =>
              cases wb with
              | false =>
                have Q : Hid (q = false) := HQ.out
                go_wp2
                go_meet
                case rel => exact ⟨by rw [Q.out], S2.out⟩
              | true =>
                cases wp with
                | false =>
                  have Q : Hid (q = false) := HQ.out
                  go_wp2
                  go_meet
                  case rel => exact ⟨by rw [Q.out], S2.out⟩
                | true =>
                  by_cases hinc : r.hint = .increasing
                  · obtain rfl : hh = 1 := by have e := HHH.out; rw [hinc] at e; cases e; rfl
                    have Q : Hid (q = true) := by show _ = _; rw [HQ.out, hinc]; rfl
                    clear hinc
                    go_wp2
                    go_meet
                    case rel => exact ⟨by rw [Q.out], S2.out⟩
                  · have hh1 : (hh == 1) = false := by
                      have e := HHH.out
                      cases hcc : r.hint with
                      | unknown => rw [hcc] at e; cases e; rfl
                      | increasing => exact absurd hcc hinc
                      | decreasing => rw [hcc] at e; cases e; rfl
                    have Q : Hid (q = false) := by show _ = _; rw [HQ.out]; simp [hinc]
                    clear hinc
                    go_wp2
                    go_meet
                    case rel => exact ⟨by rw [Q.out], S2.out⟩
            case rest =>
              obtain ⟨rfl, hs2⟩ := hcut
              have S2 := Lib.hid hs2
              clear hs2
              go_upto_if 75 with (fail)
              go_cut [] from 21 to 147 (fun wx => r.pi.2 = false ∧ Sd Ok B w0 Ts g n c Rs wx r.pi.1)
              case first =>
                cases q with
                | false =>
                  have HPI : Hid (r.pi = (r.d2, false)) := by show _ = _; have e := HQ.out; rw [HRD.out] at e ⊢; exact Sort.rd_pi_no e.symm
                  go_wp2
                  go_meet
                  case rel => exact ⟨by rw [HPI.out], by rw [HPI.out]; exact S2.out⟩
                | true =>
                  have HPI : Hid (r.pi = Sort.partialInsertionSort (ltc cf) r.d2 a b) := by show _ = _; have e := HQ.out; rw [HRD.out] at e ⊢; exact Sort.rd_pi_yes e.symm
                  have PC := Lib.hid (KI.out _ _ S2.out a b (by omega) hbn)
                  rw [← HPI.out] at PC
                  obtain ⟨dp, hdp⟩ : ∃ x, x = r.pi.1 := ⟨_, rfl⟩
                  obtain ⟨pq, hpq⟩ : ∃ x, x = r.pi.2 := ⟨_, rfl⟩
                  rw [← hdp, ← hpq] at PC
                  have HPQ := Lib.hid hpq
                  have HDP := Lib.hid hdp
                  clear hdp hpq
                  cases pq with
                  | true =>
                    have HRR := Lib.hid ((HDONE.out HPQ.out.symm).trans HDP.out.symm)
                    go_wp2_with (fail)
                    refine PC.out.mono ?_
                    clear PC
                    rintro e w4 ⟨rfl, h⟩
                    have S3 := Lib.hid h
                    clear h
                    go_wp2
                    refine bodyPost_ret (results_none rfl _ _ _) rfl ?_
                    rw [HRR.out]
                    exact ⟨rfl, S3.out⟩
                  | false =>
                    go_wp2_with (fail)
                    refine PC.out.mono ?_
                    clear PC
                    rintro e w4 ⟨rfl, h⟩
                    have S3 := Lib.hid h
                    clear h
                    go_wp2
                    go_meet
                    case rel => exact ⟨HPQ.out.symm, by rw [← HDP.out]; exact S3.out⟩
              case rest =>
                obtain ⟨hpi2, hs3⟩ := hcut
                obtain ⟨dp, hdp⟩ : ∃ x, x = r.pi.1 := ⟨_, rfl⟩
                rw [← hdp] at hs3
                have S3 := Lib.hid hs3
                have HEQP := Lib.hid (HEQ0.out hpi2)
                have HPART := Lib.hid (HPA0.out hpi2)
                have BP := Lib.hid BPI.out
                rw [← hdp] at HEQP HPART BP
                clear hdp hs3 hpi2 HEQ0 HPA0 BPI HDONE S2 S1
                by_cases ha0 : a = 0
                · have hgd : decide ((0 : Int) < (a : Int)) = false := decide_eq_false (by omega)
                  have h87 : Hid ((decide (a > 0) && !ltc cf dp[a - 1]! dp[pv]!) = false) := by show _ = _; simp [ha0]
                  have HA0 := Lib.hid ha0
                  clear ha0
                  go_wp2_with (fail)
                  refine wp_lax_list (by kernel_rfl) (by kernel_rfl) (by kernel_rfl) ?_
                  refine wpL_move (.int .i64 (a : Int)) rfl (by kernel_rfl) (by kernel_rfl) (by kernel_rfl) (by kernel_rfl) ?_
                  refine wpL_run1 (x := .tmp 81) (.int .i64 (a : Int)) (.bool false) (by kernel_rfl) (by kernel_rfl) (by kernel_rfl) (by kernel_rfl) (by kernel_rfl) (fun wx ρ hwx h0 hc => gtr_i rfl hgd ρ wx h0 (hc _)) ?_
                  refine wpL_move (.bool false) rfl (by kernel_rfl) (by kernel_rfl) (by kernel_rfl) (by kernel_rfl) ?_
                  refine wpL_skip (by kernel_rfl) (by kernel_rfl) ?_
                  refine wpL_skip (by kernel_rfl) (by kernel_rfl) ?_
                  refine wpL_skip (by kernel_rfl) (by kernel_rfl) ?_
                  refine wpL_skip (by kernel_rfl) (by kernel_rfl) ?_
                  refine wpL_skip (by kernel_rfl) (by kernel_rfl) ?_
                  refine wpL_skip (by kernel_rfl) (by kernel_rfl) ?_
                  refine wpL_skip (by kernel_rfl) (by kernel_rfl) ?_
                  refine wpL_skip (by kernel_rfl) (by kernel_rfl) ?_
                  refine wpL_skip (by kernel_rfl) (by kernel_rfl) ?_
                  refine wpL_skip (by kernel_rfl) (by kernel_rfl) ?_
                  refine wpL_skip (by kernel_rfl) (by kernel_rfl) ?_
                  refine wpL_skip (by kernel_rfl) (by kernel_rfl) ?_
                  refine wpL_skip (by kernel_rfl) (by kernel_rfl) ?_
                  refine wpL_run1 (x := .tmp 83) (.bool false) (.bool false) (by kernel_rfl) (by kernel_rfl) (by kernel_rfl) (by kernel_rfl) (by kernel_rfl) (fun wx ρ hwx h0 hc => by simp [go_sem, h0, hc]) ?_
                  refine wpL_end (by kernel_rfl) (fun w1 hw1 => ?_)
                  simp only [FinL, setL, List.set_cons_zero, List.set_cons_succ]
                  have S4 := Lib.hid (S3.out.later hw1)
                  clear hgd S3
                  obtain ⟨⟨mid, ap, d4⟩, hpx⟩ : ∃ x, x = Sort.partition (ltc cf) dp a b pv := ⟨_, rfl⟩
                  have PP := Lib.hid (KP.out _ _ S4.out a b pv hpa hpb hbn)
                  rw [← hpx] at PP
                  obtain ⟨m1, m2, m3, m4, m5, m6, m7⟩ := Sort.round_part HO.out (Sort.partition_holds (ltc cf)) hpa hpb (by rw [S4.out.size]; exact hbn) BP.out hpx.symm
                  have M6 := Lib.hid m6
                  have M7 := Lib.hid m7
                  have M4 := Lib.hid m4
                  have M5 := Lib.hid m5
                  have HLR : Hid ((mid - a < b - mid → R = Sort.pdq (ltc cf) (Sort.pdq (ltc cf) d4 a mid lim2 true true) (mid + 1) b lim2 (decide (mid - a ≥ (b - a) / 8)) ap) ∧ (¬ mid - a < b - mid → R = Sort.pdq (ltc cf) (Sort.pdq (ltc cf) d4 (mid + 1) b lim2 true true) a mid lim2 (decide (b - mid ≥ (b - a) / 8)) ap)) := by
                    have e := HPART.out h87.out
                    rw [← hpx] at e
                    rw [← HLIM.out]
                    exact e ⟨m1, m2⟩
                  have hd4 : d4.size = n := m3.trans S4.out.size
                  clear hpx m3 m4 m5 m6 m7 h87 HPART HEQP S4
                  go_wp2_with (fail)
                  refine PP.out.mono ?_
                  clear PP
                  rintro e w5 ⟨rfl, h⟩
                  have S5 := Lib.hid h
                  clear h
                  obtain ⟨ml, hml⟩ : ∃ x, x = mid - a := ⟨_, rfl⟩
                  obtain ⟨mr, hmr⟩ : ∃ x, x = b - mid := ⟨_, rfl⟩
                  obtain ⟨l8, hl8⟩ : ∃ x, x = l / 8 := ⟨_, rfl⟩
                  have hmlI : (mid : Int) - (a : Int) = (ml : Int) := by omega
                  have hmrI : (b : Int) - (mid : Int) = (mr : Int) := by omega
                  have hl8I : (l : Int).tdiv 8 = (l8 : Int) := by rw [hl8]; rfl
                  obtain ⟨mid1, hmid1⟩ : ∃ x, x = mid + 1 := ⟨_, rfl⟩
                  have hmid1I : (mid : Int) + 1 = (mid1 : Int) := by omega
                  have HML := Lib.hid hml
                  have HMR := Lib.hid hmr
                  have HM1 := Lib.hid hmid1
                  have HL8 : Hid (l8 = (b - a) / 8) := by show _ = _; rw [hl8, ← HLE.out]
                  have hmb : ml ≤ 100000 := by omega
                  have hrb : mr ≤ 100000 := by omega
                  have h8b : l8 ≤ 100000 := by omega
                  have hmidb : mid ≤ 100000 := by omega
                  have hlm : ml + mr = l := by have := HLE.out; omega
                  clear hml hmr hl8 hmid1
                  by_cases h4 : ml < mr
                  · have h4I : (ml : Int) < (mr : Int) := by omega
                    have CR := Lib.hid (IH.out ml (by have := HLE.out; have := HML.out; omega) _ _ a mid lim2 S5.out m1 (by omega) (by have := HML.out; omega) hlim2 M4.out)
                    obtain ⟨d5, hd5⟩ : ∃ x, x = Sort.pdq (ltc cf) d4 a mid lim2 true true := ⟨_, rfl⟩
                    have hs5 := Sort.pdq_sorts (ltc cf) HO.out d4 a mid lim2 true true m1 (by omega) M4.out
                    rw [← hd5] at CR hs5
                    have B5 := Lib.hid (M6.out d5 hs5.1 hs5.2).1
                    have HE2 : Hid (Sort.pdq (ltc cf) d5 mid1 b lim2 (decide (ml ≥ l8)) ap = R) := by
                      show _ = _
                      rw [HLR.out.1 (by rw [← HML.out, ← HMR.out]; exact h4), ← hd5, HM1.out, HML.out, HL8.out]
                    clear hd5 hs5 HLR S5
                    go_wp2_with (fail)
                    refine CR.out.mono ?_
                    clear CR
                    rintro e w6 ⟨rfl, h⟩
                    have S6 := Lib.hid h
                    clear h
                    go_wp2
                    go_roundg (b - mid1)
                    case measure => have := HM1.out; omega
                    case rel => exact ⟨mid1, b, lim2, decide (ml ≥ l8), ap, d5, (by first | rfl | go_num), rfl, (by first | rfl | go_num), congrArg Value.bool (decide_eq_decide.2 (by omega)), rfl, by have := HM1.out; omega, hbn, Nat.le_refl _, by have := HM1.out; omega, hlim2, by rw [HM1.out]; exact B5.out, S6.out, HE2.out⟩
                  · have h4I : ¬ (ml : Int) < (mr : Int) := by omega
                    have CR := Lib.hid (IH.out (mr - 1) (by have := HLE.out; have := HML.out; omega) _ _ mid1 b lim2 S5.out (by have := HM1.out; omega) hbn (by have := HM1.out; have := HMR.out; omega) hlim2 (by rw [HM1.out]; exact M5.out))
                    obtain ⟨d5, hd5⟩ : ∃ x, x = Sort.pdq (ltc cf) d4 mid1 b lim2 true true := ⟨_, rfl⟩
                    have hs5 := Sort.pdq_sorts (ltc cf) HO.out d4 mid1 b lim2 true true (by have := HM1.out; omega) (by omega) (by rw [HM1.out]; exact M5.out)
                    rw [← hd5] at CR hs5
                    have B5 := Lib.hid (M7.out d5 (by rw [← HM1.out]; exact hs5.1) (by rw [← HM1.out]; exact hs5.2)).1
                    have HE2 : Hid (Sort.pdq (ltc cf) d5 a mid lim2 (decide (mr ≥ l8)) ap = R) := by
                      show _ = _
                      rw [HLR.out.2 (by rw [← HML.out, ← HMR.out]; exact h4), ← HM1.out, ← hd5, HMR.out, HL8.out]
                    clear hd5 hs5 HLR S5
                    go_wp2_with (fail)
                    refine CR.out.mono ?_
                    clear CR
                    rintro e w6 ⟨rfl, h⟩
                    have S6 := Lib.hid h
                    clear h
                    go_wp2
                    go_roundg (mid - a)
                    case measure => omega
                    case rel => exact ⟨a, mid, lim2, decide (mr ≥ l8), ap, d5, rfl, rfl, (by first | rfl | go_num), congrArg Value.bool (decide_eq_decide.2 (by omega)), rfl, m1, by omega, Nat.le_refl _, by omega, hlim2, B5.out, S6.out, HE2.out⟩
                · have hgd : decide ((0 : Int) < (a : Int)) = true := decide_eq_true (by omega)
                  obtain ⟨k, hak⟩ : ∃ k, a = k + 1 := ⟨a - 1, by omega⟩
                  have hkn : k < n := by omega
                  have hak1 : a - 1 = k := by omega
                  obtain ⟨x, hx⟩ : ∃ x, x = dp[k]! := ⟨_, rfl⟩
                  obtain ⟨y, hy⟩ : ∃ y, y = dp[pv]! := ⟨_, rfl⟩
                  obtain ⟨z, hz⟩ : ∃ z, z = cf x y := ⟨_, rfl⟩
                  have ASK := Lib.hid (ask_at K S3.out hkn hpvn)
                  have CX := Lib.hid (cell_at S3.out hkn)
                  have CY := Lib.hid (cell_at S3.out hpvn)
                  rw [← hx, ← hy, ← hz] at ASK
                  rw [← hx] at CX
                  rw [← hy] at CY
                  have HAK := Lib.hid hak
                  have H87 : Hid ((decide (a > 0) && !ltc cf dp[a - 1]! dp[pv]!) = !ltc cf x y) := by show _ = _; rw [hak1, ← hx, ← hy]; simp; intro _; omega
                  have HNL : Hid (ltc cf dp[a - 1]! dp[pv]! = ltc cf x y) := by show _ = _; rw [hak1, ← hx, ← hy]
                  clear hak hak1 ha0
                  by_cases hlt : ltc cf x y = true
                  · have HT := Lib.hid (ltc_t hlt hz)
                    have h87 : Hid ((decide (a > 0) && !ltc cf dp[a - 1]! dp[pv]!) = false) := by show _ = _; rw [H87.out, hlt]; rfl
                    clear hlt hz hx hy H87 HNL
                    go_wp2_with (fail)
                    refine wp_lax_list (by kernel_rfl) (by kernel_rfl) (by kernel_rfl) ?_
                    refine wpL_move (.int .i64 (a : Int)) rfl (by kernel_rfl) (by kernel_rfl) (by kernel_rfl) (by kernel_rfl) ?_
                    refine wpL_run1 (x := .tmp 81) (.int .i64 (a : Int)) (.bool true) (by kernel_rfl) (by kernel_rfl) (by kernel_rfl) (by kernel_rfl) (by kernel_rfl) (fun wx ρ hwx h0 hc => gtr_i rfl hgd ρ wx h0 (hc _)) ?_
                    refine wpL_move (.bool true) rfl (by kernel_rfl) (by kernel_rfl) (by kernel_rfl) (by kernel_rfl) ?_
                    refine wpL_move (fvOf f bs cb) rfl (by kernel_rfl) (by kernel_rfl) (by kernel_rfl) (by kernel_rfl) ?_
                    refine wpL_move (.slice (some ⟨g, 0, none⟩) n c) rfl (by kernel_rfl) (by kernel_rfl) (by kernel_rfl) (by kernel_rfl) ?_
                    refine wpL_move (.int .i64 (a : Int)) rfl (by kernel_rfl) (by kernel_rfl) (by kernel_rfl) (by kernel_rfl) ?_
                    refine wpL_run1 (x := .tmp 86) (.int .i64 (a : Int)) (.int .i64 (k : Int)) (by kernel_rfl) (by kernel_rfl) (by kernel_rfl) (by kernel_rfl) (by kernel_rfl) (fun wx ρ hwx h0 hc => bin_sub rfl _ 1 HAK.out (by omega) ρ wx h0 (hc _)) ?_
                    refine wpL_run2 (x := .tmp 85) (y := .tmp 87) (.slice (some ⟨g, 0, none⟩) n c) (.int .i64 (k : Int)) (.pointer (some ⟨g, k, none⟩)) (by kernel_rfl) (by kernel_rfl) (by kernel_rfl) (by kernel_rfl) (by kernel_rfl) (by kernel_rfl) (fun wx ρ hwx h0 h1 hc => idx_i rfl hkn ρ wx h0 h1) ?_
                    refine wpL_run1 (x := .tmp 88) (.pointer (some ⟨g, k, none⟩)) (iV x) (by kernel_rfl) (by kernel_rfl) (by kernel_rfl) (by kernel_rfl) (by kernel_rfl) (fun wx ρ hwx h0 hc => load_i rfl ρ (CX.out wx hwx) h0) ?_
                    refine wpL_move (.slice (some ⟨g, 0, none⟩) n c) rfl (by kernel_rfl) (by kernel_rfl) (by kernel_rfl) (by kernel_rfl) ?_
                    refine wpL_move (.int .i64 (pv : Int)) rfl (by kernel_rfl) (by kernel_rfl) (by kernel_rfl) (by kernel_rfl) ?_
                    refine wpL_run2 (x := .tmp 90) (y := .tmp 91) (.slice (some ⟨g, 0, none⟩) n c) (.int .i64 (pv : Int)) (.pointer (some ⟨g, pv, none⟩)) (by kernel_rfl) (by kernel_rfl) (by kernel_rfl) (by kernel_rfl) (by kernel_rfl) (by kernel_rfl) (fun wx ρ hwx h0 h1 hc => idx_i rfl hpvn ρ wx h0 h1) ?_
                    refine wpL_run1 (x := .tmp 92) (.pointer (some ⟨g, pv, none⟩)) (iV y) (by kernel_rfl) (by kernel_rfl) (by kernel_rfl) (by kernel_rfl) (by kernel_rfl) (fun wx ρ hwx h0 hc => load_i rfl ρ (CY.out wx hwx) h0) ?_
                    refine wpL_val (.int .i64 z) [iV x, iV y] (by kernel_rfl) (by kernel_rfl) rfl (by kernel_rfl) (by kernel_rfl) (by kernel_rfl) (by kernel_rfl) ENT.out (fun wx hwx => ASK.out wx hwx) ?_
                    refine wpL_run1 (x := .tmp 94) (.int .i64 z) (.bool true) (by kernel_rfl) (by kernel_rfl) (by kernel_rfl) (by kernel_rfl) (by kernel_rfl) (fun wx ρ hwx h0 hc => lss_i rfl HT.out ρ wx h0 (hc _)) ?_
                    refine wpL_run1 (x := .tmp 95) (.bool true) (.bool false) (by kernel_rfl) (by kernel_rfl) (by kernel_rfl) (by kernel_rfl) (by kernel_rfl) (fun wx ρ hwx h0 hc => not_b rfl rfl ρ wx h0) ?_
                    refine wpL_run2 (x := .tmp 83) (y := .tmp 96) (.bool true) (.bool false) (.bool false) (by kernel_rfl) (by kernel_rfl) (by kernel_rfl) (by kernel_rfl) (by kernel_rfl) (by kernel_rfl) (fun wx ρ hwx h0 h1 hc => by simp [go_sem, h0, h1]) ?_
                    refine wpL_end (by kernel_rfl) (fun w1 hw1 => ?_)
                    simp only [FinL, setL, List.set_cons_zero, List.set_cons_succ]
                    have S4 := Lib.hid (S3.out.later hw1)
                    clear hgd ASK CX CY HT S3
                    obtain ⟨⟨mid, ap, d4⟩, hpx⟩ : ∃ x, x = Sort.partition (ltc cf) dp a b pv := ⟨_, rfl⟩
                    have PP := Lib.hid (KP.out _ _ S4.out a b pv hpa hpb hbn)
                    rw [← hpx] at PP
                    obtain ⟨m1, m2, m3, m4, m5, m6, m7⟩ := Sort.round_part HO.out (Sort.partition_holds (ltc cf)) hpa hpb (by rw [S4.out.size]; exact hbn) BP.out hpx.symm
                    have M6 := Lib.hid m6
                    have M7 := Lib.hid m7
                    have M4 := Lib.hid m4
                    have M5 := Lib.hid m5
                    have HLR : Hid ((mid - a < b - mid → R = Sort.pdq (ltc cf) (Sort.pdq (ltc cf) d4 a mid lim2 true true) (mid + 1) b lim2 (decide (mid - a ≥ (b - a) / 8)) ap) ∧ (¬ mid - a < b - mid → R = Sort.pdq (ltc cf) (Sort.pdq (ltc cf) d4 (mid + 1) b lim2 true true) a mid lim2 (decide (b - mid ≥ (b - a) / 8)) ap)) := by
                      have e := HPART.out h87.out
                      rw [← hpx] at e
                      rw [← HLIM.out]
                      exact e ⟨m1, m2⟩
                    have hd4 : d4.size = n := m3.trans S4.out.size
                    clear hpx m3 m4 m5 m6 m7 h87 HPART HEQP S4
                    go_wp2_with (fail)
                    refine PP.out.mono ?_
                    clear PP
                    rintro e w5 ⟨rfl, h⟩
                    have S5 := Lib.hid h
                    clear h
                    obtain ⟨ml, hml⟩ : ∃ x, x = mid - a := ⟨_, rfl⟩
                    obtain ⟨mr, hmr⟩ : ∃ x, x = b - mid := ⟨_, rfl⟩
                    obtain ⟨l8, hl8⟩ : ∃ x, x = l / 8 := ⟨_, rfl⟩
                    have hmlI : (mid : Int) - (a : Int) = (ml : Int) := by omega
                    have hmrI : (b : Int) - (mid : Int) = (mr : Int) := by omega
                    have hl8I : (l : Int).tdiv 8 = (l8 : Int) := by rw [hl8]; rfl
                    obtain ⟨mid1, hmid1⟩ : ∃ x, x = mid + 1 := ⟨_, rfl⟩
                    have hmid1I : (mid : Int) + 1 = (mid1 : Int) := by omega
                    have HML := Lib.hid hml
                    have HMR := Lib.hid hmr
                    have HM1 := Lib.hid hmid1
                    have HL8 : Hid (l8 = (b - a) / 8) := by show _ = _; rw [hl8, ← HLE.out]
                    have hmb : ml ≤ 100000 := by omega
                    have hrb : mr ≤ 100000 := by omega
                    have h8b : l8 ≤ 100000 := by omega
                    have hmidb : mid ≤ 100000 := by omega
                    have hlm : ml + mr = l := by have := HLE.out; omega
                    clear hml hmr hl8 hmid1
                    by_cases h4 : ml < mr
                    · have h4I : (ml : Int) < (mr : Int) := by omega
                      have CR := Lib.hid (IH.out ml (by have := HLE.out; have := HML.out; omega) _ _ a mid lim2 S5.out m1 (by omega) (by have := HML.out; omega) hlim2 M4.out)
                      obtain ⟨d5, hd5⟩ : ∃ x, x = Sort.pdq (ltc cf) d4 a mid lim2 true true := ⟨_, rfl⟩
                      have hs5 := Sort.pdq_sorts (ltc cf) HO.out d4 a mid lim2 true true m1 (by omega) M4.out
                      rw [← hd5] at CR hs5
                      have B5 := Lib.hid (M6.out d5 hs5.1 hs5.2).1
                      have HE2 : Hid (Sort.pdq (ltc cf) d5 mid1 b lim2 (decide (ml ≥ l8)) ap = R) := by
                        show _ = _
                        rw [HLR.out.1 (by rw [← HML.out, ← HMR.out]; exact h4), ← hd5, HM1.out, HML.out, HL8.out]
                      clear hd5 hs5 HLR S5
                      go_wp2_with (fail)
                      refine CR.out.mono ?_
                      clear CR
                      rintro e w6 ⟨rfl, h⟩
                      have S6 := Lib.hid h
                      clear h
                      go_wp2
                      go_roundg (b - mid1)
                      case measure => have := HM1.out; omega
                      case rel => exact ⟨mid1, b, lim2, decide (ml ≥ l8), ap, d5, (by first | rfl | go_num), rfl, (by first | rfl | go_num), congrArg Value.bool (decide_eq_decide.2 (by omega)), rfl, by have := HM1.out; omega, hbn, Nat.le_refl _, by have := HM1.out; omega, hlim2, by rw [HM1.out]; exact B5.out, S6.out, HE2.out⟩
                    · have h4I : ¬ (ml : Int) < (mr : Int) := by omega
                      have CR := Lib.hid (IH.out (mr - 1) (by have := HLE.out; have := HML.out; omega) _ _ mid1 b lim2 S5.out (by have := HM1.out; omega) hbn (by have := HM1.out; have := HMR.out; omega) hlim2 (by rw [HM1.out]; exact M5.out))
                      obtain ⟨d5, hd5⟩ : ∃ x, x = Sort.pdq (ltc cf) d4 mid1 b lim2 true true := ⟨_, rfl⟩
                      have hs5 := Sort.pdq_sorts (ltc cf) HO.out d4 mid1 b lim2 true true (by have := HM1.out; omega) (by omega) (by rw [HM1.out]; exact M5.out)
                      rw [← hd5] at CR hs5
                      have B5 := Lib.hid (M7.out d5 (by rw [← HM1.out]; exact hs5.1) (by rw [← HM1.out]; exact hs5.2)).1
                      have HE2 : Hid (Sort.pdq (ltc cf) d5 a mid lim2 (decide (mr ≥ l8)) ap = R) := by
                        show _ = _
                        rw [HLR.out.2 (by rw [← HML.out, ← HMR.out]; exact h4), ← HM1.out, ← hd5, HMR.out, HL8.out]
                      clear hd5 hs5 HLR S5
                      go_wp2_with (fail)
                      refine CR.out.mono ?_
                      clear CR
                      rintro e w6 ⟨rfl, h⟩
                      have S6 := Lib.hid h
                      clear h
                      go_wp2
                      go_roundg (mid - a)
                      case measure => omega
                      case rel => exact ⟨a, mid, lim2, decide (mr ≥ l8), ap, d5, rfl, rfl, (by first | rfl | go_num), congrArg Value.bool (decide_eq_decide.2 (by omega)), rfl, m1, by omega, Nat.le_refl _, by omega, hlim2, B5.out, S6.out, HE2.out⟩
                  · have hlf : ltc cf x y = false := by simpa using hlt
                    have HT := Lib.hid (ltc_t hlf hz)
                    have h87 : Hid ((decide (a > 0) && !ltc cf dp[a - 1]! dp[pv]!) = true) := by show _ = _; rw [H87.out, hlf]; rfl
                    have hnl : Hid (ltc cf dp[a - 1]! dp[pv]! = false) := by show _ = _; rw [HNL.out, hlf]
                    clear hlt hlf hz hx hy H87 HNL
                    go_wp2_with (fail)
                    refine wp_lax_list (by kernel_rfl) (by kernel_rfl) (by kernel_rfl) ?_
                    refine wpL_move (.int .i64 (a : Int)) rfl (by kernel_rfl) (by kernel_rfl) (by kernel_rfl) (by kernel_rfl) ?_
                    refine wpL_run1 (x := .tmp 81) (.int .i64 (a : Int)) (.bool true) (by kernel_rfl) (by kernel_rfl) (by kernel_rfl) (by kernel_rfl) (by kernel_rfl) (fun wx ρ hwx h0 hc => gtr_i rfl hgd ρ wx h0 (hc _)) ?_
                    refine wpL_move (.bool true) rfl (by kernel_rfl) (by kernel_rfl) (by kernel_rfl) (by kernel_rfl) ?_
                    refine wpL_move (fvOf f bs cb) rfl (by kernel_rfl) (by kernel_rfl) (by kernel_rfl) (by kernel_rfl) ?_
                    refine wpL_move (.slice (some ⟨g, 0, none⟩) n c) rfl (by kernel_rfl) (by kernel_rfl) (by kernel_rfl) (by kernel_rfl) ?_
                    refine wpL_move (.int .i64 (a : Int)) rfl (by kernel_rfl) (by kernel_rfl) (by kernel_rfl) (by kernel_rfl) ?_
                    refine wpL_run1 (x := .tmp 86) (.int .i64 (a : Int)) (.int .i64 (k : Int)) (by kernel_rfl) (by kernel_rfl) (by kernel_rfl) (by kernel_rfl) (by kernel_rfl) (fun wx ρ hwx h0 hc => bin_sub rfl _ 1 HAK.out (by omega) ρ wx h0 (hc _)) ?_
                    refine wpL_run2 (x := .tmp 85) (y := .tmp 87) (.slice (some ⟨g, 0, none⟩) n c) (.int .i64 (k : Int)) (.pointer (some ⟨g, k, none⟩)) (by kernel_rfl) (by kernel_rfl) (by kernel_rfl) (by kernel_rfl) (by kernel_rfl) (by kernel_rfl) (fun wx ρ hwx h0 h1 hc => idx_i rfl hkn ρ wx h0 h1) ?_
                    refine wpL_run1 (x := .tmp 88) (.pointer (some ⟨g, k, none⟩)) (iV x) (by kernel_rfl) (by kernel_rfl) (by kernel_rfl) (by kernel_rfl) (by kernel_rfl) (fun wx ρ hwx h0 hc => load_i rfl ρ (CX.out wx hwx) h0) ?_
                    refine wpL_move (.slice (some ⟨g, 0, none⟩) n c) rfl (by kernel_rfl) (by kernel_rfl) (by kernel_rfl) (by kernel_rfl) ?_
                    refine wpL_move (.int .i64 (pv : Int)) rfl (by kernel_rfl) (by kernel_rfl) (by kernel_rfl) (by kernel_rfl) ?_
                    refine wpL_run2 (x := .tmp 90) (y := .tmp 91) (.slice (some ⟨g, 0, none⟩) n c) (.int .i64 (pv : Int)) (.pointer (some ⟨g, pv, none⟩)) (by kernel_rfl) (by kernel_rfl) (by kernel_rfl) (by kernel_rfl) (by kernel_rfl) (by kernel_rfl) (fun wx ρ hwx h0 h1 hc => idx_i rfl hpvn ρ wx h0 h1) ?_
                    refine wpL_run1 (x := .tmp 92) (.pointer (some ⟨g, pv, none⟩)) (iV y) (by kernel_rfl) (by kernel_rfl) (by kernel_rfl) (by kernel_rfl) (by kernel_rfl) (fun wx ρ hwx h0 hc => load_i rfl ρ (CY.out wx hwx) h0) ?_
                    refine wpL_val (.int .i64 z) [iV x, iV y] (by kernel_rfl) (by kernel_rfl) rfl (by kernel_rfl) (by kernel_rfl) (by kernel_rfl) (by kernel_rfl) ENT.out (fun wx hwx => ASK.out wx hwx) ?_
                    refine wpL_run1 (x := .tmp 94) (.int .i64 z) (.bool false) (by kernel_rfl) (by kernel_rfl) (by kernel_rfl) (by kernel_rfl) (by kernel_rfl) (fun wx ρ hwx h0 hc => lss_i rfl HT.out ρ wx h0 (hc _)) ?_
                    refine wpL_run1 (x := .tmp 95) (.bool false) (.bool true) (by kernel_rfl) (by kernel_rfl) (by kernel_rfl) (by kernel_rfl) (by kernel_rfl) (fun wx ρ hwx h0 hc => not_b rfl rfl ρ wx h0) ?_
                    refine wpL_run2 (x := .tmp 83) (y := .tmp 96) (.bool true) (.bool true) (.bool true) (by kernel_rfl) (by kernel_rfl) (by kernel_rfl) (by kernel_rfl) (by kernel_rfl) (by kernel_rfl) (fun wx ρ hwx h0 h1 hc => by simp [go_sem, h0, h1]) ?_
                    refine wpL_end (by kernel_rfl) (fun w1 hw1 => ?_)
                    simp only [FinL, setL, List.set_cons_zero, List.set_cons_succ]
                    have S4 := Lib.hid (S3.out.later hw1)
                    clear hgd ASK CX CY HT S3
                    obtain ⟨⟨mid, d4⟩, hpx⟩ : ∃ x, x = Sort.partitionEqual (ltc cf) dp a b pv := ⟨_, rfl⟩
                    have PP := Lib.hid (KE.out _ _ S4.out a b pv hpa hpb hbn)
                    rw [← hpx] at PP
                    obtain ⟨m1, m2, m3, m4, _⟩ := Sort.round_eq HO.out (Sort.partitionEqual_holds (ltc cf)) (by have := HAK.out; omega) hpa hpb (by rw [S4.out.size]; exact hbn) BP.out hnl.out hpx.symm
                    have M4 := Lib.hid m4
                    have HE2 : Hid (Sort.pdq (ltc cf) d4 mid b lim2 wb wp = R) := by
                      have e := HEQP.out h87.out
                      rw [← hpx] at e
                      rw [← HLIM.out]
                      exact (e ⟨m1, m2⟩).symm
                    clear hpx m3 m4 h87 hnl HPART HEQP S4
                    go_wp2_with (fail)
                    refine PP.out.mono ?_
                    clear PP
                    rintro e w5 ⟨rfl, h⟩
                    have S5 := Lib.hid h
                    clear h
                    go_wp2
                    go_roundg (b - mid)
                    case measure => omega
                    case rel => exact ⟨mid, b, lim2, wb, wp, d4, (by first | rfl | go_num), rfl, (by first | rfl | go_num), rfl, rfl, m2, hbn, Nat.le_refl _, by omega, hlim2, M4.out, S5.out, HE2.out⟩
theorem pdq_any (K : Cmp f bs cb cf Ok B w0 Ts) (hO : Sort.SWO (ltc cf)) (hn : n ≤ 100000) (m : Nat) : PdqAt f bs cb cf Ok B w0 Ts g n c Rs m := by
  induction m using Nat.strongRecOn with
  | _ m ih => exact pdq_step K hO hn m ih
end
end Srt
end Go.Proofs.Ytlgfddpgmpabcaa

end
section
namespace Go.Proofs.Ytlgfddpgmpabcaa
open Go.RowKit Go.Own
namespace Srt
section
variable {f : FuncId} {bs cb : Array Value} {cf : Nat → Nat → Int} {Ok : Nat → Prop} {B : Nat} {w0 w : World} {Ts Rs : List Asn} {g n c : Nat} {d : Array Nat}
set_option maxHeartbeats 1600000 in
theorem sort_some (K : Cmp f bs cb cf Ok B w0 Ts) (hO : Sort.SWO (ltc cf)) (hn : n ≤ 100000) (S : Sd Ok B w0 Ts g n c Rs w d) :
    Calls Try.prog 37 #[.slice (some ⟨g, 0, none⟩) n c, fvOf f bs cb] w fun e w' => e = .returned (.tuple #[]) ∧ ∃ d', Sd Ok B w0 Ts g n c Rs w' d' ∧ Sort.PermIn 0 n d d' ∧ Sort.SortedIn (ltc cf) 0 n d' := by
  have hl : Lib.bitLen n ≤ 1000 := Nat.le_trans (Lib.bitLen_le n 17 (by omega) (by omega)) (by decide)
  obtain ⟨l, hle⟩ : ∃ l, l = Lib.bitLen n := ⟨_, rfl⟩
  rw [← hle] at hl
  have LC := Lib.hid (len_any n hn)
  rw [← hle] at LC
  have HS := Lib.hid S
  have PC := Lib.hid (pdq_any (Rs := Rs) (g := g) (c := c) K hO hn n)
  have hb0 : Sort.Below (ltc cf) 0 n d := .inl rfl
  have HB := Lib.hid hb0
  have FIN := Lib.hid (Sort.pdq_sorts (ltc cf) hO d 0 n l true true (Nat.zero_le _) (by rw [S.size]; exact Nat.le_refl _) hb0)
  clear S K hO hle hb0
  go_enter Try.func37, Try.ntmps37
  go_wp2_with (fail)
  refine (LC.out _).mono ?_
  clear LC
  rintro e w1 ⟨rfl, rfl⟩
  go_wp2_with (fail)
  refine (PC.out _ d 0 n l HS.out (Nat.zero_le _) (Nat.le_refl _) (by omega) hl HB.out).mono ?_
  rintro e w2 ⟨rfl, h⟩
  have H2 := Lib.hid h
  clear h
  go_wp2
  go_end0
  exact ⟨rfl, _, H2.out, FIN.out⟩
end
set_option maxHeartbeats 1600000 in
theorem insertion_none (ao : Option Addr) (cap : Nat) (fv : Value) (w : World) : Calls Try.prog 52 #[.slice ao 0 cap, .int .i64 0, .int .i64 0, fv] w fun e w' => e = .returned (.tuple #[]) ∧ w' = w := by
  go_enter Try.func52, Try.ntmps52
  go_wp2
  go_loopw [8] (fun v8 wr => v8 = .int .i64 1 ∧ wr = w) (fun _ _ => 0)
  case atStart => exact ⟨rfl, rfl⟩
  case round =>
    obtain ⟨rfl, rfl⟩ := hrel
    go_wp2
    go_end0
    exact ⟨rfl, rfl⟩
set_option maxHeartbeats 1600000 in
theorem pdq_none (ao : Option Addr) (cap : Nat) (l : Nat) (fv : Value) (w : World) : Calls Try.prog 45 #[.slice ao 0 cap, .int .i64 0, .int .i64 0, .int .i64 (l : Int), fv] w fun e w' => e = .returned (.tuple #[]) ∧ w' = w := by
  have CC := Lib.hid (insertion_none ao cap fv)
  go_enter Try.func45, Try.ntmps45
  go_wp2
  go_loopw [1, 2] (fun v1 v2 wr => v1 = .int .i64 0 ∧ v2 = .int .i64 0 ∧ wr = w) (fun _ _ _ => 0)
  case atStart => exact ⟨rfl, rfl, rfl⟩
  case round =>
    obtain ⟨rfl, rfl, rfl⟩ := hrel
    go_wp2_with (fail)
    refine (CC.out _).mono ?_
    rintro e w1 ⟨rfl, rfl⟩
    go_wp2
    refine bodyPost_ret (results_none rfl _ _ _) rfl ?_
    exact ⟨rfl, rfl⟩
set_option maxHeartbeats 1600000 in
theorem sort_none (ao : Option Addr) (cap : Nat) (fv : Value) (w : World) : Calls Try.prog 37 #[.slice ao 0 cap, fv] w fun e w' => e = .returned (.tuple #[]) ∧ w' = w := by
  have LC := Lib.hid (len_any 0 (by omega))
  have PC := Lib.hid (pdq_none ao cap (Lib.bitLen 0) fv)
  go_enter Try.func37, Try.ntmps37
  go_wp2_with (fail)
  refine (LC.out _).mono ?_
  rintro e w1 ⟨rfl, rfl⟩
  go_wp2_with (fail)
  refine (PC.out _).mono ?_
  rintro e w2 ⟨rfl, rfl⟩
  go_wp2
  go_end0
  exact ⟨rfl, rfl⟩
end Srt
end Go.Proofs.Ytlgfddpgmpabcaa

end
section
namespace Go.Proofs.Ytlgfddpgmpabcaa
open Go.RowKit Go.Own
namespace Tba
open Go.TabM Tab
/-- one segment comes ahead of another, or is it -/
def leS (rows : List Sg) (i j : Nat) : Prop := (at_ rows i).seq < (at_ rows j).seq ∨ ((at_ rows i).seq = (at_ rows j).seq ∧ i ≤ j)
theorem leS_antisymm {rows : List Sg} {i j : Nat} (h1 : leS rows i j) (h2 : leS rows j i) : i = j := by
  unfold leS at h1 h2
  omega
theorem seqLt (rows : List Sg) (i j : Nat) : Srt.ltc (seqCmp rows) i j = decide ((at_ rows i).seq < (at_ rows j).seq ∨ ((at_ rows i).seq = (at_ rows j).seq ∧ i < j)) := by
  unfold Srt.ltc seqCmp orI cmpN
  by_cases h1 : (at_ rows i).seq < (at_ rows j).seq
  · simp [h1]
  · by_cases h2 : (at_ rows j).seq < (at_ rows i).seq
    · have h3 : ¬ (at_ rows i).seq = (at_ rows j).seq := by omega
      simp [h1, h2, h3]
    · have h3 : (at_ rows i).seq = (at_ rows j).seq := by omega
      by_cases h4 : i < j
      · simp [h3, h4]
      · by_cases h5 : j < i <;> simp [h3, h4, h5]
theorem seq_swo (rows : List Sg) : Sort.SWO (Srt.ltc (seqCmp rows)) where
  irrefl x := by rw [seqLt]; simp
  trans x y z h1 h2 := by rw [seqLt] at *; simp at *; omega
  ntrans x y z h1 h2 := by rw [seqLt] at *; simp at *; omega
theorem seq_not (rows : List Sg) {i j : Nat} (h : Srt.ltc (seqCmp rows) i j = false) : leS rows j i := by
  rw [seqLt] at h
  unfold leS
  simp at h
  omega
theorem ins_cons (rows : List Sg) (j : Nat) (l : List Nat) (i : Nat) : ins rows (j :: l) i = if (at_ rows j).seq ≤ (at_ rows i).seq then j :: ins rows l i else i :: j :: l := by
  unfold ins
  rw [aheadN]
  by_cases h : (at_ rows j).seq ≤ (at_ rows i).seq
  · rw [if_pos h, if_pos h, List.take_succ_cons, List.drop_succ_cons, List.cons_append]
  · rw [if_neg h, if_neg h]; rfl
theorem ins_perm (rows : List Sg) : ∀ (l : List Nat) (i : Nat), (ins rows l i).Perm (i :: l)
  | [], i => List.Perm.refl _
  | j :: l, i => by
    rw [ins_cons]
    split
    · exact ((ins_perm rows l i).cons j).trans (List.Perm.swap i j l)
    · exact List.Perm.refl _
theorem ins_sorted (rows : List Sg) : ∀ (l : List Nat) (i : Nat), l.Pairwise (leS rows) → (∀ j ∈ l, j < i) → (ins rows l i).Pairwise (leS rows)
  | [], i, _, _ => by
    show [i].Pairwise _
    exact List.pairwise_singleton _ _
  | j :: l, i, h, hlt => by
    rw [List.pairwise_cons] at h
    have hji := hlt j List.mem_cons_self
    rw [ins_cons]
    by_cases hs : (at_ rows j).seq ≤ (at_ rows i).seq
    · rw [if_pos hs, List.pairwise_cons]
      refine ⟨fun y hy => ?_, ins_sorted rows l i h.2 (fun k hk => hlt k (List.mem_cons_of_mem _ hk))⟩
      rcases ins_mem hy with rfl | hy
      · unfold leS; omega
      · exact h.1 y hy
    · rw [if_neg hs, List.pairwise_cons, List.pairwise_cons]
      refine ⟨fun y hy => ?_, h.1, h.2⟩
      rcases List.mem_cons.1 hy with rfl | hy
      · unfold leS; omega
      · have := h.1 y hy
        unfold leS at this ⊢
        omega
theorem sealedF_perm (rows : List Sg) : ∀ (l : List Sg) (acc : List Nat) (i : Nat), (sealedF rows acc i l).Perm (acc ++ allF 2 i l)
  | [], acc, i => by simp [sealedF, allF]
  | s :: l, acc, i => by
    unfold sealedF allF
    by_cases h : s.kind = 2
    · rw [if_pos h, if_pos h]
      exact (sealedF_perm rows l _ (i + 1)).trans (((ins_perm rows acc i).append_right _).trans (List.perm_middle.symm))
    · rw [if_neg h, if_neg h]
      exact sealedF_perm rows l acc (i + 1)
theorem sealedF_sorted (rows : List Sg) : ∀ (l : List Sg) (acc : List Nat) (i : Nat), acc.Pairwise (leS rows) → (∀ j ∈ acc, j < i) → (sealedF rows acc i l).Pairwise (leS rows)
  | [], acc, i, h, _ => h
  | s :: l, acc, i, h, hlt => by
    unfold sealedF
    by_cases hs : s.kind = 2
    · rw [if_pos hs]
      refine sealedF_sorted rows l _ (i + 1) (ins_sorted rows acc i h hlt) (fun j hj => ?_)
      rcases ins_mem hj with rfl | hj
      · exact Nat.lt_succ_self _
      · exact Nat.lt_succ_of_lt (hlt j hj)
    · rw [if_neg hs]
      exact sealedF_sorted rows l acc (i + 1) h (fun j hj => Nat.lt_succ_of_lt (hlt j hj))
theorem sealed_perm (t : T) : (sealedL t).Perm (allL 2 t) := sealedF_perm t.rows t.rows [] 0
theorem sealed_sorted (t : T) : (sealedL t).Pairwise (leS t.rows) := sealedF_sorted t.rows t.rows [] 0 List.Pairwise.nil (fun _ h => by cases h)
theorem sorted_pair {rows : List Sg} {n : Nat} {d : Array Nat} (hn : d.size = n) (h : Sort.SortedIn (Srt.ltc (seqCmp rows)) 0 n d) : d.toList.Pairwise (leS rows) := by
  rw [List.pairwise_iff_getElem]
  intro i j hi hj hij
  have hi' : i < d.size := by simpa using hi
  have hj' : j < d.size := by simpa using hj
  have := seq_not rows (h i j (Nat.zero_le _) hij (by omega))
  rw [getElem!_pos d i hi', getElem!_pos d j hj'] at this
  simpa using this
theorem sealed_eq {t : T} {d d' : Array Nat} {n : Nat} (hd : d.toList = allL 2 t) (hn : d.size = n) (hp : Sort.PermIn 0 n d d') (hs : Sort.SortedIn (Srt.ltc (seqCmp t.rows)) 0 n d') : d'.toList = sealedL t := by
  obtain ⟨hsz, _, hperm⟩ := hp
  have e1 : d'.extract 0 n = d' := by rw [← hn, ← hsz]; exact Array.extract_size
  have e2 : d.extract 0 n = d := by rw [← hn]; exact Array.extract_size
  rw [e1, e2, hd] at hperm
  exact List.Perm.eq_of_pairwise (fun a b _ _ h1 h2 => leS_antisymm h1 h2) (sorted_pair (hsz.trans hn) hs) (sealed_sorted t) (hperm.trans (sealed_perm t).symm)
theorem enters38 (args : Array Value) (w : World) : (callFunc 38 args).run Try.prog w = .ok (.enter 38 args) w := by simp [go_sem]
section
variable {B : Nat} {w0 w : World} {Ps : List Asn} {p : Nat} {v : Value} {t : T} {N : Nat}
theorem cmpK (H : Own.St B w0 w (AT p v t :: Ps)) : Srt.Cmp 38 #[ptr p] #[] (seqCmp t.rows) (fun i => i < t.rows.length) w.heap.size w [] where
  ent := enters38
  ask := fun hs x y hx hy => bySeq_any (H.later hs.below) x y hx hy
  low := fun x y => by unfold seqCmp orI cmpN; split <;> (try split) <;> (try split) <;> (try split) <;> omega
set_option maxHeartbeats 4000000 in
theorem sealed_any (H : Own.St B w0 w (AT p v t :: Ps)) (ok : Ok t N) : Calls Try.prog 25 #[ptr p] w fun e w' => ∃ ao c, e = .returned (.slice ao (sealedL t).length c) ∧ Own.St w.heap.size w w' [RowI (.slice ao (sealedL t).length c) (sealedL t) (sealedL t).length] := by
  have CC := Lib.hid (all_any H ok 2 (by decide))
  have HH := Lib.hid H
  have hlen : (allL 2 t).length ≤ 256 := by unfold allL; rw [allF_len]; exact Nat.le_trans List.countP_le_length ok.len
  obtain ⟨L, hL⟩ : ∃ L, L = allL 2 t := ⟨_, rfl⟩
  have HLT : Hid (∀ x ∈ L, x < t.rows.length) := fun x hx => (all_lt (by rw [← hL]; exact hx)).1
  rw [← hL] at CC hlen
  have hsl : (sealedL t).length = L.length := by rw [hL]; exact (sealed_perm t).length_eq
  obtain ⟨n, hn⟩ : ∃ n, n = L.length := ⟨_, rfl⟩
  rw [hsl, ← hn]
  rw [← hn] at CC hlen
  have HL := Lib.hid hL
  have HN := Lib.hid hn
  have SS : Hid (∀ (w1 : World) (ao : Option Addr) (c : Nat), Own.St w.heap.size w w1 [RowI (.slice ao n c) L n] →
      Calls Try.prog 37 #[.slice ao n c, .func (.func 38) #[ptr p] #[]] w1 fun e w' => e = .returned (.tuple #[]) ∧ Own.St w.heap.size w w' [RowI (.slice ao n c) (sealedL t) n]) := by
    intro w1 ao c h1
    by_cases h0 : n = 0
    · have hL0 : L = [] := List.eq_nil_of_length_eq_zero (by rw [← HN.out]; exact h0)
      have hs0 : sealedL t = L := by
        rw [hL0]
        exact List.eq_nil_of_length_eq_zero (by rw [hsl, hL0]; rfl)
      rw [hs0]
      subst h0
      exact (Srt.sort_none ao c _ w1).mono fun e w' h => ⟨h.1, by rw [h.2]; exact h1⟩
    · obtain ⟨g, hg, _, _, _⟩ := h1.rowAt 0 rfl 0 (by omega)
      cases hg
      have S0 : Srt.Sd (fun i => i < t.rows.length) w.heap.size w [] g n c [] w1 L.toArray := by
        refine ⟨h1, by simp; exact HN.out.symm, fun i hi => ?_⟩
        have hil : i < L.toArray.size := by simp; rw [← HN.out]; exact hi
        rw [getElem!_pos _ i hil]
        exact HLT.out _ (by simp)
      refine (Srt.sort_some (cmpK HH.out) (seq_swo t.rows) (by omega) S0).mono ?_
      rintro e w' ⟨rfl, d', hS, hp, hs⟩
      refine ⟨rfl, ?_⟩
      have e := sealed_eq (by simpa using HL.out) (by simp; exact HN.out.symm) hp hs
      have h := hS.st
      rw [e] at h
      exact h
  clear H ok hL hn hsl HLT HL HN HH
  go_enter Try.func25, Try.ntmps25
  go_wp2_with (fail)
  refine CC.out.mono ?_
  clear CC
  rintro e w1 ⟨ao, c, rfl, h⟩
  have S1 := Lib.hid (SS.out w1 ao c h)
  clear h SS
  go_wp2_with (fail)
  refine S1.out.mono ?_
  clear S1
  rintro e w2 ⟨rfl, h⟩
  have H2 := Lib.hid h
  clear h
  go_wp2
  go_ret
  exact ⟨ao, c, rfl, H2.out⟩
theorem nilSealed (w : World) : Calls Try.prog 25 #[.pointer none] w fun e w' => ∃ ao cap, e = .returned (.slice ao 0 cap) ∧ Below w.heap.size w w' := by
  go_enter Try.func25, Try.ntmps25
  go_wp2_with (fail)
  refine (nilAll 2 w).mono ?_
  rintro e w' ⟨rfl, rfl⟩
  go_wp2_with (fail)
  refine (Srt.sort_none none 0 _ _).mono ?_
  rintro e w' ⟨rfl, rfl⟩
  go_wp2
  go_ret
  exact ⟨none, 0, rfl, Below.refl _ _⟩
end
end Tba
end Go.Proofs.Ytlgfddpgmpabcaa

end
section
namespace Go.Proofs.Ytlgfddpgmpabcaa
open Go.RowKit Go.Own
namespace Tba
open Go.TabM Tab
abbrev sgV (k q e : Nat) : Value := .agg #[.int .u8 (k : Int), .int .u64 (q : Int), .int .u32 (e : Int)]
set_option maxHeartbeats 1600000 in
theorem possible_any (k q e next : Nat) (hq : q ≤ 100000) (hn : next ≤ 100000) (hk : k ≤ 2) (hf : k = 0 → q = 0) (hu : k ≠ 0 → 1 ≤ q ∧ q < next) (w : World) :
    Calls Try.prog 41 #[sgV k q e, .int .u64 (next : Int)] w fun r w' => r = .returned (.bool true) ∧ Below w.heap.size w w' := by
  have HB : Hid (Below w.heap.size w (w.alloc (.cells #[.int .u8 (k : Int), .int .u64 (q : Int), .int .u32 (e : Int)] 44))) := ((Own.St.start w).alloc _).below
  rcases (show k = 0 ∨ k = 1 ∨ k = 2 by omega) with rfl | rfl | rfl
  · obtain rfl := hf rfl
    clear hu hf
    go_enter Try.func41, Try.ntmps41
    go_wp2
    go_ret
    exact ⟨rfl, HB.out⟩
  · obtain ⟨h1, h2⟩ := hu (by decide)
    have h1I : (0 : Int) < (q : Int) := by omega
    have h2I : (q : Int) < (next : Int) := by omega
    clear hu hf
    go_enter Try.func41, Try.ntmps41
    go_wp2
    go_ret
    exact ⟨rfl, HB.out⟩
  · obtain ⟨h1, h2⟩ := hu (by decide)
    have h1I : (0 : Int) < (q : Int) := by omega
    have h2I : (q : Int) < (next : Int) := by omega
    clear hu hf
    go_enter Try.func41, Try.ntmps41
    go_wp2
    go_ret
    exact ⟨rfl, HB.out⟩
/-- two segments that may be in one table -/
def apartS (k q k2 q2 : Nat) : Prop := k = 0 ∨ k2 = 0 ∨ (q ≠ q2 ∧ ¬ (k = 1 ∧ k2 = 1))
set_option maxHeartbeats 4000000 in
theorem clash_any (k q e k2 q2 e2 : Nat) (hk : k ≤ 2) (hk2 : k2 ≤ 2) (h : apartS k q k2 q2) (w : World) :
    Calls Try.prog 44 #[sgV k q e, sgV k2 q2 e2] w fun r w' => r = .returned (.bool false) ∧ Below w.heap.size w w' := by
  have HB : Hid (Below w.heap.size w ((w.alloc (.cells #[.int .u8 (k : Int), .int .u64 (q : Int), .int .u32 (e : Int)] 44)).alloc (.cells #[.int .u8 (k2 : Int), .int .u64 (q2 : Int), .int .u32 (e2 : Int)] 44))) := (((Own.St.start w).alloc _).alloc _).below
  unfold apartS at h
  by_cases hq : q = q2
  · subst hq
    have h' : k = 0 ∨ k2 = 0 := by
      rcases h with h | h | h
      · exact .inl h
      · exact .inr h
      · exact absurd rfl h.1
    clear h
    rcases (show k = 0 ∨ k = 1 ∨ k = 2 by omega) with rfl | rfl | rfl
    · clear h'
      go_enter Try.func44, Try.ntmps44
      go_wp2
      go_ret
      exact ⟨rfl, HB.out⟩
    all_goals
      obtain rfl : k2 = 0 := by rcases h' with h' | h' <;> omega
      clear h'
      go_enter Try.func44, Try.ntmps44
      go_wp2
      go_ret
      exact ⟨rfl, HB.out⟩
  · have hqb : ((q : Int) == (q2 : Int)) = false := by simp; omega
    have h' : ¬ (k = 1 ∧ k2 = 1) := by omega
    clear h hq
    rcases (show k = 0 ∨ k = 1 ∨ k = 2 by omega) with rfl | rfl | rfl <;> rcases (show k2 = 0 ∨ k2 = 1 ∨ k2 = 2 by omega) with rfl | rfl | rfl
    case inr.inl.inr.inl => exact absurd ⟨rfl, rfl⟩ h'
    all_goals
      clear h'
      go_enter Try.func44, Try.ntmps44
      go_wp2
      go_ret
      exact ⟨rfl, HB.out⟩
section
variable {B : Nat} {w0 w : World} {Ps : List Asn}
set_option maxHeartbeats 1600000 in
theorem closure_any (b k q e k2 q2 e2 : Nat) (hk : k ≤ 2) (hk2 : k2 ≤ 2) (h : apartS k q k2 q2) (H : Own.St B w0 w (AVals b 44 [.int .u8 (k2 : Int), .int .u64 (q2 : Int), .int .u32 (e2 : Int)] :: Ps)) :
    Calls Try.prog 43 #[sgV k q e, ptr b] w fun r w' => r = .returned (.bool false) ∧ Below w.heap.size w w' := by
  have b0 := H.boxV 44 [.int .u8 (k : Int), .int .u64 (q : Int), .int .u32 (e : Int)]
  have c0 := (b0.cellV 1 rfl 0 rfl).1
  have c1 := (b0.cellV 1 rfl 1 rfl).1
  have c2 := (b0.cellV 1 rfl 2 rfl).1
  have HB : Hid (Below w.heap.size w (w.alloc (.cells #[.int .u8 (k : Int), .int .u64 (q : Int), .int .u32 (e : Int)] 44))) := ((Own.St.start w).alloc _).below
  have CC := Lib.hid (fun wx => clash_any k q e k2 q2 e2 hk hk2 h wx)
  clear b0 H h
  go_enter Try.func43, Try.ntmps43
  go_wp2_with (fail)
  refine (CC.out _).mono ?_
  clear CC
  rintro r w2 ⟨rfl, hb⟩
  have H2 := Lib.hid (HB.out.trans (hb.mono HB.out.size))
  clear hb
  go_wp2
  go_ret
  exact ⟨rfl, H2.out⟩
/-- of the first m segments none clashes -/
theorem index_none (b k2 q2 e2 : Nat) (hk2 : k2 ≤ 2) (R : List Sg) (m : Nat) (hm : m ≤ R.length) (hr : ∀ j, j < m → (at_ R j).kind ≤ 2 ∧ apartS (at_ R j).kind (at_ R j).seq k2 q2) (hl : R.length ≤ 256) (g c : Nat) (hmc : m ≤ c)
    (H : Own.St B w0 w (AVals b 44 [.int .u8 (k2 : Int), .int .u64 (q2 : Int), .int .u32 (e2 : Int)] :: Ps))
    (hg : ∀ wx, Below w.heap.size w wx → ∀ j, j < R.length → At wx g j (at_ R j)) :
    Calls Try.prog 51 #[.slice (some ⟨g, 0, none⟩) m c, .func (.func 43) #[] #[ptr b]] w fun r w' => r = .returned (.int .i64 (-1)) ∧ Below w.heap.size w w' := by
  have HH := Lib.hid H
  have HG := Lib.hid hg
  have HR := Lib.hid hr
  have hb0 : Below w.heap.size w w := Below.refl _ _
  have HB0 := Lib.hid hb0
  have hmb : m ≤ 256 := by omega
  clear H hg hr hb0
  go_enter Try.func51, Try.ntmps51
  go_wp2
  go_loopw [8] (fun v8 wr => ∃ i : Nat, v8 = .int .i64 (i : Int) ∧ i ≤ m ∧ Below w.heap.size w wr) (fun v8 _ => m - (intOf v8).toNat)
  case atStart => exact ⟨0, rfl, Nat.zero_le _, HB0.out⟩
  case round =>
    obtain ⟨i, rfl, him, hb⟩ := hrel
    have HB := Lib.hid hb
    clear hb HB0
    by_cases hi : i < m
    · have hiI : (i : Int) < (m : Int) := by omega
      have ha := HG.out _ HB.out i (by omega)
      obtain ⟨hk, hap⟩ := HR.out i hi
      obtain ⟨k, hkk⟩ : ∃ k, k = (at_ R i).kind := ⟨_, rfl⟩
      obtain ⟨q, hqq⟩ : ∃ k, k = (at_ R i).seq := ⟨_, rfl⟩
      obtain ⟨e, hee⟩ : ∃ k, k = (at_ R i).wear := ⟨_, rfl⟩
      have a0 := ha.c0
      have a1 := ha.c1
      have a2 := ha.c2
      rw [← hkk] at a0 hk hap
      rw [← hqq] at a1 hap
      rw [← hee] at a2
      have CC := Lib.hid (closure_any b k q e k2 q2 e2 hk hk2 hap (HH.out.later HB.out))
      clear ha hkk hqq hee hap
      go_wp2_with (fail)
      refine CC.out.mono ?_
      clear CC
      rintro r w2 ⟨rfl, hb⟩
      have HB2 := Lib.hid (HB.out.trans (hb.mono HB.out.size))
      clear hb a0 a1 a2
      go_wp2
      go_roundw
      case rel => exact ⟨i + 1, by go_num, by omega, HB2.out⟩
      case measure => simp [intOf]; omega
    · have hiI : ¬ (i : Int) < (m : Int) := by omega
      go_wp2
      go_ret
      exact ⟨rfl, HB.out⟩
set_option maxHeartbeats 1600000 in
theorem contains_none (b k2 q2 e2 : Nat) (hk2 : k2 ≤ 2) (R : List Sg) (m : Nat) (hm : m ≤ R.length) (hr : ∀ j, j < m → (at_ R j).kind ≤ 2 ∧ apartS (at_ R j).kind (at_ R j).seq k2 q2) (hl : R.length ≤ 256) (g c : Nat) (hmc : m ≤ c)
    (H : Own.St B w0 w (AVals b 44 [.int .u8 (k2 : Int), .int .u64 (q2 : Int), .int .u32 (e2 : Int)] :: Ps))
    (hg : ∀ wx, Below w.heap.size w wx → ∀ j, j < R.length → At wx g j (at_ R j)) :
    Calls Try.prog 42 #[.slice (some ⟨g, 0, none⟩) m c, .func (.func 43) #[] #[ptr b]] w fun r w' => r = .returned (.bool false) ∧ Below w.heap.size w w' := by
  have CC := Lib.hid (index_none b k2 q2 e2 hk2 R m hm hr hl g c hmc H hg)
  clear H hg hr
  go_enter Try.func42, Try.ntmps42
  go_wp2_with (fail)
  refine CC.out.mono ?_
  clear CC
  rintro r w2 ⟨rfl, hb⟩
  have HB := Lib.hid hb
  clear hb
  go_wp2
  go_ret
  exact ⟨rfl, HB.out⟩
theorem load_apart {R : List Sg} {next : Nat} (h : LoadOk R next) {i j : Nat} (hi : i < R.length) (hj : j < i) : (at_ R j).kind ≤ 2 ∧ apartS (at_ R j).kind (at_ R j).seq (at_ R i).kind (at_ R i).seq := by
  have hjR : j < R.length := by omega
  rw [at_lt hi, at_lt hjR]
  have hne : j ≠ i := by omega
  constructor
  · by_cases h0 : R[j].kind = 0
    · omega
    · exact (h.used _ (List.getElem_mem hjR) h0).1
  · unfold apartS
    by_cases h0 : R[j].kind = 0
    · exact .inl h0
    · by_cases h1 : R[i].kind = 0
      · exact .inr (.inl h1)
      · refine .inr (.inr ⟨fun e => ?_, fun e => hne (h.one j i hjR hi e.1 e.2)⟩)
        have := h.apart j i hjR hi hne e
        have := (h.used _ (List.getElem_mem hjR) h0).2.1
        omega
set_option maxHeartbeats 4000000 in
theorem consistent_any (R : List Sg) (next N : Nat) (ao : Option Addr) (n c : Nat) (hn : R.length = n) (hnc : n ≤ c) (hc : c ≤ maxLen) (h : LoadOk R next) (ok : Ok ⟨R, next⟩ N) (hN : N ≤ 10000) (hg : 0 < n → ∃ g, ao = some ⟨g, 0, none⟩ ∧ ∀ wx, Below w.heap.size w wx → ∀ j, j < R.length → At wx g j (at_ R j)) :
    Calls Try.prog 35 #[.slice ao n c, .int .u64 (next : Int)] w fun r w' => r = .returned (.bool true) ∧ Below w.heap.size w w' := by
  have hnb : n ≤ 256 := by rw [← hn]; exact h.len
  have hnxb : next ≤ 10001 := by have := ok.next; simp only at this; omega
  have HOK := Lib.hid ok
  have HLO := Lib.hid h
  have HG := Lib.hid hg
  have HN := Lib.hid hn
  have HS0 := Lib.hid (Own.St.start w)
  unfold maxLen at hc
  clear ok h hg hn
  go_enter Try.func35, Try.ntmps35
  go_wp2
  go_loopw [9] (fun v9 wr => ∃ i : Nat, v9 = .int .i64 (i : Int) ∧ i ≤ n ∧ Own.St w.heap.size w wr []) (fun v9 _ => n - (intOf v9).toNat)
  case atStart => exact ⟨0, rfl, Nat.zero_le _, HS0.out⟩
  case round =>
    obtain ⟨i, rfl, hin, hs⟩ := hrel
    have HS := Lib.hid hs
    clear hs HS0
    by_cases hi : i < n
    · have hiI : (i : Int) < (n : Int) := by omega
      obtain ⟨g, hg, hat⟩ := HG.out (by omega)
      subst hg
      have HAT := Lib.hid hat
      have hiR : i < R.length := by rw [HN.out]; exact hi
      have ha := hat _ HS.out.below i hiR
      have LA : Hid (∀ j, j < i → (at_ R j).kind ≤ 2 ∧ apartS (at_ R j).kind (at_ R j).seq (at_ R i).kind (at_ R i).seq) := fun j hj => load_apart HLO.out hiR hj
      have hmem := at_mem hiR
      obtain ⟨k, hkk⟩ : ∃ k, k = (at_ R i).kind := ⟨_, rfl⟩
      obtain ⟨q, hqq⟩ : ∃ k, k = (at_ R i).seq := ⟨_, rfl⟩
      obtain ⟨e, hee⟩ : ∃ k, k = (at_ R i).wear := ⟨_, rfl⟩
      have hk2 : k ≤ 2 := by rw [hkk]; exact HOK.out.kind _ hmem
      have hqb : q ≤ 100000 := by rw [hqq]; exact Nat.le_trans (HOK.out.seq _ hmem) (by omega)
      have PO : Hid (∀ wx, Calls Try.prog 41 #[sgV k q e, .int .u64 (next : Int)] wx fun r w' => r = .returned (.bool true) ∧ Below wx.heap.size wx w') := fun wx => possible_any k q e next hqb (by omega) hk2 (fun h => by rw [hqq]; exact HLO.out.free _ hmem (by rw [← hkk]; exact h)) (fun h => by rw [hqq]; exact (HLO.out.used _ hmem (by rw [← hkk]; exact h)).2) wx
      have a0 := ha.c0
      have a1 := ha.c1
      have a2 := ha.c2
      rw [← hkk] at a0 LA
      rw [← hqq] at a1 LA
      rw [← hee] at a2
      clear ha hkk hqq hee hmem hat hiR
      have hic : (i : Int) ≤ (c : Int) := by omega
      go_wp2_with (first
        | (refine wpList_newZ (sgC zS) zero_seg rfl rfl HS.out ?_; intro b7 w7 h; have H7 := Lib.hid h; clear h)
        | (refine wpList_fill boxy_seg rfl (.tmp 6) (.tmp 13) rfl rfl H7.out 0 rfl rfl [.int .u8 (k : Int), .int .u64 (q : Int), .int .u32 (e : Int)] rfl rfl rfl (by intro u hu; simp at hu; rcases hu with rfl | rfl | rfl <;> rfl) ?_; intro w8 h; simp only [List.set_cons_zero] at h; have H8 := Lib.hid h; have d0 := (h.cellV 0 rfl 0 rfl).1; have d1 := (h.cellV 0 rfl 1 rfl).1; have d2 := (h.cellV 0 rfl 2 rfl).1; clear h))
      refine (PO.out _).mono ?_
      clear PO
      rintro r w9 ⟨rfl, hb⟩
      have H9 := Lib.hid (H8.out.later hb)
      clear hb d0 d1 d2 a0 a1 a2
      have CN := Lib.hid (contains_none b7 k q e hk2 R i (by rw [HN.out]; omega) LA.out (by rw [HN.out]; exact hnb) g c (by omega) H9.out (fun wx hw j hj => HAT.out wx (H9.out.below.trans (hw.mono H9.out.below.size)) j hj))
      go_wp2_with (fail)
      refine CN.out.mono ?_
      clear CN
      rintro r w10 ⟨rfl, hb⟩
      have H10 := H9.out.later hb
      have HA := Lib.hid (H10.drop 1)
      clear H10 hb
      go_wp2
      go_roundw
      case rel => exact ⟨i + 1, by go_num, by omega, HA.out⟩
      case measure => simp [intOf]; omega
    · have hiI : ¬ (i : Int) < (n : Int) := by omega
      have HB := Lib.hid HS.out.below
      go_wp2
      go_ret
      exact ⟨rfl, HB.out⟩
set_option maxHeartbeats 4000000 in
theorem load_any (R : List Sg) (next N : Nat) (ao : Option Addr) (n c : Nat) (H : Own.St B w0 w (ARow 44 3 (.slice ao n c) n (R.flatMap sgC) :: Ps)) (hn : R.length = n) (h : LoadOk R next) (ok : Ok ⟨R, next⟩ N) (hN : N ≤ 10000) :
    Calls Try.prog 21 #[.slice ao n c, .int .u64 (next : Int)] w fun e w' => ∃ p, e = .returned (.tuple #[ptr p, errT 0]) ∧ Own.St B w0 w' (A p ⟨R, next⟩ :: Ps) := by
  have hnb : n ≤ 256 := by rw [← hn]; exact h.len
  have hnx0 : ((next : Int) == 0) = false := by have := h.low; simp; omega
  obtain ⟨_, hnc, hcm, hno⟩ := H.rowLen 0 rfl
  have HR : Own.St B w0 w (RowG (.slice ao n c) R :: Ps) := by
    show Own.St B w0 w (ARow _ 3 _ R.length _ :: Ps)
    rw [hn]
    exact H
  have CC := Lib.hid (consistent_any (w := w) R next N ao n c hn hnc hcm h ok hN (fun h0 => by
    obtain ⟨g, cc, e, _⟩ := rowG_at HR 0 rfl 0 (by omega)
    simp only [Value.slice.injEq] at e
    obtain ⟨rfl, _, _⟩ := e
    refine ⟨g, rfl, fun wx hw j hj => ?_⟩
    obtain ⟨g2, c2, e2, ha⟩ := rowG_at (HR.later hw) 0 rfl j hj
    simp only [Value.slice.injEq, Option.some.injEq, Addr.mk.injEq, and_true] at e2
    obtain ⟨rfl, _, _⟩ := e2
    exact ha))
  have CP := Lib.hid (fun (w1 : World) (hb : Below w.heap.size w w1) => copied_any (H.later hb) ao n c R hn hnb (fun e => (hno e).1) (fun w' hw a ha j u hu => by
    obtain ⟨S, hS, _⟩ := ((H.later hb).later hw).at 0 rfl
    exact (((H.later hb).later hw).rowNews 0 rfl) a ha j u hu))
  have HN := Lib.hid hn
  have hc63 : c ≤ 9223372036854775807 := by unfold maxLen at hcm; omega
  clear H HR h ok hn hno
  go_enter Try.func21, Try.ntmps21
  go_wp2_with (fail)
  refine CC.out.mono ?_
  clear CC
  rintro e w1 ⟨rfl, hb⟩
  have C1 := Lib.hid (CP.out w1 hb)
  clear hb CP
  go_wp2_with (fail)
  refine C1.out.mono ?_
  clear C1
  rintro e w2 ⟨g, rfl, h⟩
  have hbx := h.boxV 61 (tabC (.slice (some ⟨g, 0, none⟩) n n) ⟨R, next⟩)
  obtain ⟨p, hp⟩ : ∃ p, p = w2.heap.size := ⟨_, rfl⟩
  rw [← hp] at hbx
  have H9 : Hid (Own.St B w0 (w2.alloc (.cells #[.slice (some ⟨g, 0, none⟩) n n, .int .u64 (next : Int)] 61)) (A p ⟨R, next⟩ :: Ps)) := by
    have h1 := (hbx.perm (((List.Perm.swap _ _ _).cons _) : (AVals p 61 (tabC (.slice (some ⟨g, 0, none⟩) n n) ⟨R, next⟩) :: RowG (.slice (some ⟨g, 0, none⟩) n n) R :: ARow 44 3 (.slice ao n c) n (R.flatMap sgC) :: Ps).Perm (AVals p 61 (tabC (.slice (some ⟨g, 0, none⟩) n n) ⟨R, next⟩) :: ARow 44 3 (.slice ao n c) n (R.flatMap sgC) :: RowG (.slice (some ⟨g, 0, none⟩) n n) R :: Ps))).drop2
    exact Own.St.closeE (.slice (some ⟨g, 0, none⟩) n n) (at_close h1)
  clear h hbx
  go_wp2
  rw [← hp]
  go_ret2
  exact ⟨p, rfl, H9.out⟩
end
end Tba
end Go.Proofs.Ytlgfddpgmpabcaa

end
section
namespace Go.Proofs.Ytlgfddpgmpabcaa
open Go.RowKit Go.Own
namespace Tba
open Go.TabM Tab
section
variable {B : Nat} {w0 w : World} {Ps : List Asn} {p : Nat} {t : T} {N : Nat}
theorem A_of {v : Value} (h : Own.St B w0 w (AT p v t :: Ps)) : Own.St B w0 w (A p t :: Ps) := Own.St.closeE v h
theorem A_to (h : Own.St B w0 w (A p t :: Ps)) : ∃ v, Own.St B w0 w (AT p v t :: Ps) := Own.St.openE h
theorem rowI_rd {w' : World} {l : List Nat} {ao : Option Addr} {c : Nat} (h : Own.St w.heap.size w w' [RowI (.slice ao l.length c) l l.length]) : RdRow w' (.slice ao l.length c) l.length (l.map iV) := rd_own h 0 rfl
end
end Tba
namespace Tab
open Go.TabM Tba
noncomputable def kept (W : World) : Kept W where
  A := Tba.A
  new := fun num _ H hn => (new_any H num hn).mono fun e w' h => by
    by_cases hm : mayBe num = true
    · rw [if_pos hm] at h ⊢
      obtain ⟨q, v, h1, h2⟩ := h
      exact ⟨q, h1, A_of h2⟩
    · rw [if_neg hm] at h ⊢
      obtain ⟨h1, rfl⟩ := h
      exact ⟨h1, H⟩
  load := fun rows next N ao n c _ H hn h ok hN => load_any rows next N ao n c H hn h ok hN
  open_ := fun _ H ok hN => by
    obtain ⟨v, h⟩ := A_to H
    exact (open_any h ok (by omega)).mono fun e w' h => ⟨h.1, A_of h.2⟩
  seal_ := fun _ H ok _ => by
    obtain ⟨v, h⟩ := A_to H
    exact (seal_any h ok).mono fun e w' h => ⟨h.1, A_of h.2⟩
  rel := fun seg _ H ok _ hs => by
    obtain ⟨v, h⟩ := A_to H
    exact (rel_any h ok seg hs).mono fun e w' h => ⟨h.1, A_of h.2⟩
  cur := fun _ H ok _ => by
    obtain ⟨v, h⟩ := A_to H
    exact cur_any h ok
  free := fun _ H ok _ => by
    obtain ⟨v, h⟩ := A_to H
    exact free_any h ok
  sealed := fun _ H ok _ => by
    obtain ⟨v, h⟩ := A_to H
    exact (sealed_any h ok).mono fun e w' h => by
      obtain ⟨ao, c, h1, h2⟩ := h
      exact ⟨_, h1, rowI_rd h2, h2.below⟩
  sealedOwn := fun _ H ok _ => by
    obtain ⟨v, h⟩ := A_to H
    exact (sealed_any h ok).mono fun e w' h => by
      obtain ⟨ao, c, h1, h2⟩ := h
      exact ⟨ao, c, h1, H.adoptNew h2⟩
  rows := fun _ H ok _ => by
    obtain ⟨v, h⟩ := A_to H
    exact (rows_any h ok).mono fun e w' h => by
      obtain ⟨ao, c, h1, h2, h3⟩ := h
      exact ⟨ao, c, h1, (A_of h2.swap2).swap2, h3⟩
  next := fun _ H ok _ => by
    obtain ⟨v, h⟩ := A_to H
    exact next_any h
  nilOpen := Tba.nilOpen
  nilSeal := Tba.nilSeal
  nilRel := Tba.nilRel
  nilCur := fun w => (Tba.nilCur w).mono fun _ _ h => ⟨h.1, h.2 ▸ Below.refl _ _⟩
  nilFree := Tba.nilFree
  nilSealed := Tba.nilSealed
  nilRows := Tba.nilRows
  nilNext := Tba.nilNext
end Tab
end Go.Proofs.Ytlgfddpgmpabcaa

end
