/- slices.SortFunc with a bound method: partition. -/
import Derived.Test.YtmdphcebmgcdbaaGreatQ8
set_option linter.unusedVariables false
namespace Go.Proofs.YtmdphcebmgcdbaaGreat
open Go.RowKit Go.Own
namespace Srt
section
variable {f : FuncId} {bs cb : Array Value} {cf : Nat → Nat → Int} {Ok : Nat → Prop} {B : Nat} {w0 w : World} {Ts Rs : List Asn} {g n c : Nat} {d : Array Nat}
set_option maxRecDepth 6000 in
set_option maxHeartbeats 16000000 in
theorem part_any (K : Cmp f bs cb cf Ok B w0 Ts) (S : Sd Ok B w0 Ts g n c Rs w d) (a b p : Nat) (hap : a ≤ p) (hpb : p < b) (hb : b ≤ n) (hn : n ≤ 100000) :
    Calls Tryz.prog 84 #[.slice (some ⟨g, 0, none⟩) n c, .int .i64 (a : Int), .int .i64 (b : Int), .int .i64 (p : Int), fvOf f bs cb] w fun e w' => e = .returned (.tuple #[iV (Sort.partition (ltc cf) d a b p).1, .bool (Sort.partition (ltc cf) d a b p).2.1]) ∧ Sd Ok B w0 Ts g n c Rs w' (Sort.partition (ltc cf) d a b p).2.2 := by
  have HS := Lib.hid S
  have ENT := Lib.hid K.ent
  obtain ⟨R, hR⟩ : ∃ R, R = Sort.partition (ltc cf) d a b p := ⟨_, rfl⟩
  rw [← hR]
  obtain ⟨j, hbj⟩ : ∃ x, b = x + 1 := ⟨b - 1, by omega⟩
  have hbjI : (b : Int) - 1 = (j : Int) := by omega
  obtain ⟨i0, hi0e⟩ : ∃ x, x = a + 1 := ⟨_, rfl⟩
  have haI : (a : Int) + 1 = (i0 : Int) := by omega
  obtain ⟨dq, hdq⟩ : ∃ x, x = d := ⟨_, rfl⟩
  have han : a < n := by omega
  have hpn : p < n := by omega
  rw [← hdq] at HS
  obtain ⟨xi, hxi⟩ : ∃ x, x = dq[a]! := ⟨_, rfl⟩
  obtain ⟨xj, hxj⟩ : ∃ x, x = dq[p]! := ⟨_, rfl⟩
  have H2 := Lib.hid (HS.out.swap han hpn).drew
  have k1 := HS.out.cell han
  have k2 := HS.out.cell hpn
  have f1 := HS.out.froz han
  have f2 := HS.out.froz hpn
  obtain ⟨u, k3⟩ := HS.out.swap2 han hpn
  rw [← hxi, ← hxj] at H2
  rw [← hxi] at k1
  rw [← hxj] at k2 k3
  clear hxi hxj
  obtain ⟨dk, hdk⟩ : ∃ x, x = Sort.swp dq a p := ⟨_, rfl⟩
  obtain ⟨I, hI⟩ : ∃ I, I = Sort.scanUp (fun x => ltc cf x dk[a]!) dk j i0 := ⟨_, rfl⟩
  obtain ⟨J, hJ⟩ : ∃ J, J = Sort.scanDown (fun x => !ltc cf x dk[a]!) dk I j := ⟨_, rfl⟩
  have HQ : Hid (R = if I > J then (J, true, Sort.swp dk J a) else ((Sort.partLoop (ltc cf) a (I + 1) (J - 1) (Sort.swp dk I J)).1, false, Sort.swp (Sort.partLoop (ltc cf) a (I + 1) (J - 1) (Sort.swp dk I J)).2 (Sort.partLoop (ltc cf) a (I + 1) (J - 1) (Sort.swp dk I J)).1 a)) := by
    show _ = _
    rw [hR, hJ, hI, hdk, hdq, hi0e, hbj]
    rfl
  have HR1 : Hid (J < I → R = (J, true, Sort.swp dk J a)) := fun h => by rw [HQ.out, if_pos h]
  have HR2 : Hid (I ≤ J → R = ((Sort.partLoop (ltc cf) a (I + 1) (J - 1) (Sort.swp dk I J)).1, false, Sort.swp (Sort.partLoop (ltc cf) a (I + 1) (J - 1) (Sort.swp dk I J)).2 (Sort.partLoop (ltc cf) a (I + 1) (J - 1) (Sort.swp dk I J)).1 a)) := fun h => by rw [HQ.out, if_neg (by omega)]
  have HI := Lib.hid hI.symm
  have HJ := Lib.hid hJ.symm
  rw [← hdk] at H2
  have hai : a + 1 ≤ i0 := by omega
  have hij : i0 ≤ j + 1 := by omega
  have hjb : j + 1 ≤ n := by omega
  have hi0 : i0 ≤ i0 := Nat.le_refl _
  clear S hR hdq hbj hi0e hI hJ hdk HQ
  go_enter Tryz.func84, Tryz.ntmps84
  go_wp2_with (fail)
  go_region
  clear k1 k2 k3 f1 f2 HS
  have HK := H2
  clear H2
  go_wp2
  go_loopw [12] (fun vi ws => ∃ (i : Nat), vi = .int .i64 (i : Int) ∧ i0 ≤ i ∧ i ≤ j + 1 ∧ Sd Ok B w0 Ts g n c Rs ws dk ∧ Sort.scanUp (fun x => ltc cf x dk[a]!) dk j i = I) (fun vi _ => j + 2 - (intOf vi).toNat)
  case atStart => exact ⟨i0, (by first | rfl | go_num), Nat.le_refl _, hij, HK.out, HI.out⟩
  case round =>
    clear hij
    obtain ⟨i, rfl, hi0, hij, hs, heq⟩ := hrel
    have HK := Lib.hid hs
    have HE := Lib.hid heq
    clear hs heq HI
    by_cases hle : i ≤ j
    · have hin : i < n := by omega
      have hgd : decide ((i : Int) ≤ (j : Int)) = true := decide_eq_true (by omega)
      obtain ⟨x, hx⟩ : ∃ x, x = dk[i]! := ⟨_, rfl⟩
      obtain ⟨y, hy⟩ : ∃ y, y = dk[a]! := ⟨_, rfl⟩
      obtain ⟨z, hz⟩ : ∃ z, z = cf x y := ⟨_, rfl⟩
      have ASK := Lib.hid (ask_at K HK.out hin han)
      have CX := Lib.hid (cell_at HK.out hin)
      have CY := Lib.hid (cell_at HK.out han)
      rw [← hx, ← hy, ← hz] at ASK
      rw [← hx] at CX
      rw [← hy] at CY
      have HIN : Hid (I = if ltc cf x y = true then Sort.scanUp (fun x => ltc cf x dk[a]!) dk j (i + 1) else i) := by
        show _ = _
        rw [← HE.out, Sort.scanUp]
        simp only [← hx, ← hy]
        by_cases h : ltc cf x y = true
        · simp [hle, h]
        · simp [hle, h]
      clear HE
      by_cases hlt : ltc cf x y = true
      · have HT := Lib.hid (ltc_t hlt hz)
        have HE2 : Hid (Sort.scanUp (fun x => ltc cf x dk[a]!) dk j (i + 1) = I) := by show _ = _; rw [HIN.out, if_pos hlt]
        clear HIN hlt hz hx hy
        go_wp2_with (fail)
        refine lxX ?_; refine lxM (.int .i64 (i : Int)) rfl ?_; refine lxM (.int .i64 (j : Int)) rfl ?_; refine lxT (.tmp 32) (.tmp 33) (.int .i64 (i : Int)) (.int .i64 (j : Int)) (.bool true) (fun wx ρ hwx h0 h1 hc => leq_i rfl hgd ρ wx h0 h1) ?_; refine lxM (.bool true) rfl ?_; refine lxM (fvOf f bs cb) rfl ?_; refine lxM (.slice (some ⟨g, 0, none⟩) n c) rfl ?_; refine lxM (.int .i64 (i : Int)) rfl ?_; refine lxT (.tmp 37) (.tmp 38) (.slice (some ⟨g, 0, none⟩) n c) (.int .i64 (i : Int)) (.pointer (some ⟨g, i, none⟩)) (fun wx ρ hwx h0 h1 hc => idx_i rfl hin ρ wx h0 h1) ?_; refine lxR (.tmp 39) (.pointer (some ⟨g, i, none⟩)) (iV x) (fun wx ρ hwx h0 hc => load_i rfl ρ (CX.out wx hwx) h0) ?_; refine lxM (.slice (some ⟨g, 0, none⟩) n c) rfl ?_; refine lxM (.int .i64 (a : Int)) rfl ?_; refine lxT (.tmp 41) (.tmp 42) (.slice (some ⟨g, 0, none⟩) n c) (.int .i64 (a : Int)) (.pointer (some ⟨g, a, none⟩)) (fun wx ρ hwx h0 h1 hc => idx_i rfl han ρ wx h0 h1) ?_; refine lxR (.tmp 43) (.pointer (some ⟨g, a, none⟩)) (iV y) (fun wx ρ hwx h0 hc => load_i rfl ρ (CY.out wx hwx) h0) ?_
        refine wpL_val (.int .i64 z) [iV x, iV y] (by kernel_rfl) (by kernel_rfl) rfl (by kernel_rfl) (by kernel_rfl) (by kernel_rfl) (by kernel_rfl) ENT.out (fun wx hwx => ASK.out wx hwx) ?_
        refine lxR (.tmp 45) (.int .i64 z) (.bool true) (fun wx ρ hwx h0 hc => lss_i rfl HT.out ρ wx h0 (hc _)) ?_; refine lxB (.tmp 35) (.tmp 46) (.bool true) (.bool true) (.bool true) ?_
        refine wpL_end (by kernel_rfl) (fun w1 hw1 => ?_)
        simp only [FinL, setL, List.set_cons_zero, List.set_cons_succ]
        have H1 := Lib.hid (HK.out.later hw1)
        clear ASK CX CY
        go_wp2
        go_roundw
        case rel => exact ⟨i + 1, by go_num, by omega, by omega, H1.out, HE2.out⟩
        case measure => simp [intOf]; omega
      · have hlf : ltc cf x y = false := by simpa using hlt
        have HT := Lib.hid (ltc_t hlf hz)
        have HEI : Hid (I = i) := by show _ = _; rw [HIN.out, if_neg hlt]
        have HA : Hid (i ≤ j → ltc cf dk[i]! dk[a]! = false) := by intro _; rw [← hx, ← hy]; exact hlf
        clear HIN hlt hlf hz hx hy hle
        go_wp2_with (fail)
        refine lxX ?_; refine lxM (.int .i64 (i : Int)) rfl ?_; refine lxM (.int .i64 (j : Int)) rfl ?_; refine lxT (.tmp 32) (.tmp 33) (.int .i64 (i : Int)) (.int .i64 (j : Int)) (.bool true) (fun wx ρ hwx h0 h1 hc => leq_i rfl hgd ρ wx h0 h1) ?_; refine lxM (.bool true) rfl ?_; refine lxM (fvOf f bs cb) rfl ?_; refine lxM (.slice (some ⟨g, 0, none⟩) n c) rfl ?_; refine lxM (.int .i64 (i : Int)) rfl ?_; refine lxT (.tmp 37) (.tmp 38) (.slice (some ⟨g, 0, none⟩) n c) (.int .i64 (i : Int)) (.pointer (some ⟨g, i, none⟩)) (fun wx ρ hwx h0 h1 hc => idx_i rfl hin ρ wx h0 h1) ?_; refine lxR (.tmp 39) (.pointer (some ⟨g, i, none⟩)) (iV x) (fun wx ρ hwx h0 hc => load_i rfl ρ (CX.out wx hwx) h0) ?_; refine lxM (.slice (some ⟨g, 0, none⟩) n c) rfl ?_; refine lxM (.int .i64 (a : Int)) rfl ?_; refine lxT (.tmp 41) (.tmp 42) (.slice (some ⟨g, 0, none⟩) n c) (.int .i64 (a : Int)) (.pointer (some ⟨g, a, none⟩)) (fun wx ρ hwx h0 h1 hc => idx_i rfl han ρ wx h0 h1) ?_; refine lxR (.tmp 43) (.pointer (some ⟨g, a, none⟩)) (iV y) (fun wx ρ hwx h0 hc => load_i rfl ρ (CY.out wx hwx) h0) ?_
        refine wpL_val (.int .i64 z) [iV x, iV y] (by kernel_rfl) (by kernel_rfl) rfl (by kernel_rfl) (by kernel_rfl) (by kernel_rfl) (by kernel_rfl) ENT.out (fun wx hwx => ASK.out wx hwx) ?_
        refine lxR (.tmp 45) (.int .i64 z) (.bool false) (fun wx ρ hwx h0 hc => lss_i rfl HT.out ρ wx h0 (hc _)) ?_; refine lxB (.tmp 35) (.tmp 46) (.bool true) (.bool false) (.bool false) ?_
        refine wpL_end (by kernel_rfl) (fun w1 hw1 => ?_)
        simp only [FinL, setL, List.set_cons_zero, List.set_cons_succ]
        have H1 := Lib.hid (HK.out.later hw1)
        clear ASK CX CY HT
        have HJ0 : Hid (Sort.scanDown (fun x => !ltc cf x dk[a]!) dk i j = J) := by have e := HJ.out; rw [HEI.out] at e; exact e
        have hi1 : 1 ≤ i := by omega
        clear HJ
        go_wp2
        go_loopw [13] (fun vj ws => ∃ (j1 : Nat), vj = .int .i64 (j1 : Int) ∧ j1 ≤ j ∧ i ≤ j1 + 1 ∧ Sd Ok B w0 Ts g n c Rs ws dk ∧ Sort.scanDown (fun x => !ltc cf x dk[a]!) dk i j1 = J) (fun vj _ => (intOf vj).toNat)
        case atStart => exact ⟨j, (by first | rfl | go_num), Nat.le_refl _, hij, H1.out, HJ0.out⟩
        case round =>
          obtain ⟨jd, rfl, hjj, hij1, hs, heq⟩ := hrel
          have HK := Lib.hid hs
          have HE := Lib.hid heq
          clear hs heq HJ0 hij H1
          by_cases hle2 : i ≤ jd
          · have hjn : jd < n := by omega
            have hgd : decide ((i : Int) ≤ (jd : Int)) = true := decide_eq_true (by omega)
            obtain ⟨k, hjk⟩ : ∃ k, jd = k + 1 := ⟨jd - 1, by omega⟩
            obtain ⟨x, hx⟩ : ∃ x, x = dk[jd]! := ⟨_, rfl⟩
            obtain ⟨y, hy⟩ : ∃ y, y = dk[a]! := ⟨_, rfl⟩
            obtain ⟨z, hz⟩ : ∃ z, z = cf x y := ⟨_, rfl⟩
            have ASK := Lib.hid (ask_at K HK.out hjn han)
            have CX := Lib.hid (cell_at HK.out hjn)
            have CY := Lib.hid (cell_at HK.out han)
            rw [← hx, ← hy, ← hz] at ASK
            rw [← hx] at CX
            rw [← hy] at CY
            have HIN : Hid (J = if ltc cf x y = false then Sort.scanDown (fun x => !ltc cf x dk[a]!) dk i k else jd) := by
              show _ = _
              rw [← HE.out, hjk, Sort.scanDown, ← hjk]
              simp only [← hx, ← hy]
              by_cases h : ltc cf x y = true
              · simp [hle2, h]
              · simp [hle2, h]
            have HJK := Lib.hid hjk
            clear HE hjk
            by_cases hlt : ltc cf x y = true
            · have HT := Lib.hid (ltc_t hlt hz)
              have HEJ : Hid (J = jd) := by show _ = _; rw [HIN.out, if_neg (by simp [hlt])]
              have hne : i < jd := by
                rcases Nat.lt_or_eq_of_le hle2 with h | h
                · exact h
                · exfalso; have ha := HA.out (by omega); rw [h] at ha; rw [← hx, ← hy] at ha; rw [ha] at hlt; cases hlt
              clear HIN hlt hz hx hy hle2
              go_wp2_with (fail)
              refine lxX ?_; refine lxM (.int .i64 (i : Int)) rfl ?_; refine lxM (.int .i64 (jd : Int)) rfl ?_; refine lxT (.tmp 50) (.tmp 51) (.int .i64 (i : Int)) (.int .i64 (jd : Int)) (.bool true) (fun wx ρ hwx h0 h1 hc => leq_i rfl hgd ρ wx h0 h1) ?_; refine lxM (.bool true) rfl ?_; refine lxM (fvOf f bs cb) rfl ?_; refine lxM (.slice (some ⟨g, 0, none⟩) n c) rfl ?_; refine lxM (.int .i64 (jd : Int)) rfl ?_; refine lxT (.tmp 55) (.tmp 56) (.slice (some ⟨g, 0, none⟩) n c) (.int .i64 (jd : Int)) (.pointer (some ⟨g, jd, none⟩)) (fun wx ρ hwx h0 h1 hc => idx_i rfl hjn ρ wx h0 h1) ?_; refine lxR (.tmp 57) (.pointer (some ⟨g, jd, none⟩)) (iV x) (fun wx ρ hwx h0 hc => load_i rfl ρ (CX.out wx hwx) h0) ?_; refine lxM (.slice (some ⟨g, 0, none⟩) n c) rfl ?_; refine lxM (.int .i64 (a : Int)) rfl ?_; refine lxT (.tmp 59) (.tmp 60) (.slice (some ⟨g, 0, none⟩) n c) (.int .i64 (a : Int)) (.pointer (some ⟨g, a, none⟩)) (fun wx ρ hwx h0 h1 hc => idx_i rfl han ρ wx h0 h1) ?_; refine lxR (.tmp 61) (.pointer (some ⟨g, a, none⟩)) (iV y) (fun wx ρ hwx h0 hc => load_i rfl ρ (CY.out wx hwx) h0) ?_
              refine wpL_val (.int .i64 z) [iV x, iV y] (by kernel_rfl) (by kernel_rfl) rfl (by kernel_rfl) (by kernel_rfl) (by kernel_rfl) (by kernel_rfl) ENT.out (fun wx hwx => ASK.out wx hwx) ?_
              refine lxR (.tmp 63) (.int .i64 z) (.bool true) (fun wx ρ hwx h0 hc => lss_i rfl HT.out ρ wx h0 (hc _)) ?_; refine lxR (.tmp 64) (.bool true) (.bool false) (fun wx ρ hwx h0 hc => not_b rfl rfl ρ wx h0) ?_; refine lxB (.tmp 53) (.tmp 65) (.bool true) (.bool false) (.bool false) ?_
              refine wpL_end (by kernel_rfl) (fun w1 hw1 => ?_)
              simp only [FinL, setL, List.set_cons_zero, List.set_cons_succ]
              have H1 := Lib.hid (HK.out.later hw1)
              clear ASK CX CY HT hgd
              have hgI : ¬ (jd : Int) < (i : Int) := by omega
              have hin : i < n := by omega
              obtain ⟨k9, hk9⟩ : ∃ k, jd = k + 1 := ⟨jd - 1, by omega⟩
              obtain ⟨L, hL⟩ : ∃ L, L = Sort.partLoop (ltc cf) a (i + 1) k9 (Sort.swp dk i jd) := ⟨_, rfl⟩
              have HRL : Hid (R = (L.1, false, Sort.swp L.2 L.1 a)) := by show _ = _; rw [HR2.out (by rw [HEI.out, HEJ.out]; omega), HEI.out, HEJ.out, hL, show jd - 1 = k9 by omega]
              have hk9I : (jd : Int) - 1 = (k9 : Int) := by omega
              have hik9 : i + 1 ≤ k9 + 1 := by omega
              have hk9n : k9 + 1 ≤ n := by omega
              have hai1 : a + 1 ≤ i + 1 := by omega
              have HL := Lib.hid hL.symm
              clear HEI HEJ HR1 HR2 hL hk9
              obtain ⟨xi, hxi⟩ : ∃ x, x = dk[i]! := ⟨_, rfl⟩
              obtain ⟨xj, hxj⟩ : ∃ x, x = dk[jd]! := ⟨_, rfl⟩
              have H2 := Lib.hid (H1.out.swap hin hjn).drew
              have k1 := H1.out.cell hin
              have k2 := H1.out.cell hjn
              have f1 := H1.out.froz hin
              have f2 := H1.out.froz hjn
              obtain ⟨u, k3⟩ := H1.out.swap2 hin hjn
              rw [← hxi, ← hxj] at H2
              rw [← hxi] at k1
              rw [← hxj] at k2 k3
              clear hxi hxj
              go_wp2_with (fail)
              go_region
              clear k1 k2 k3 f1 f2
              obtain ⟨dj, hdj⟩ : ∃ x, x = Sort.swp dk i jd := ⟨_, rfl⟩
              rw [← hdj] at HL H2
              clear hdj
              go_wp2
              go_loopw [12, 13] (fun v12 v13 wr => ∃ (i j : Nat) (dk : Array Nat), v12 = .int .i64 (i : Int) ∧ v13 = .int .i64 (j : Int) ∧ a + 1 ≤ i ∧ i ≤ j + 1 ∧ j + 1 ≤ n ∧ Sd Ok B w0 Ts g n c Rs wr dk ∧ Sort.partLoop (ltc cf) a i j dk = L) (fun v12 v13 _ => (intOf v13 + 1 - intOf v12).toNat)
              case atStart => exact ⟨i + 1, k9, dj, by go_num, (by first | rfl | go_num), hai1, hik9, hk9n, H2.out, HL.out⟩
              case round =>
                clear hai hjb hi0 hai1 hik9 hk9n hk9I
                obtain ⟨i0, j, dk, rfl, rfl, hai, hij, hjb, hs, heq⟩ := hrel
                have HK := Lib.hid hs
                have HE := Lib.hid heq
                clear hs heq H2 HL
                obtain ⟨I, hI⟩ : ∃ I, I = Sort.scanUp (fun x => ltc cf x dk[a]!) dk j i0 := ⟨_, rfl⟩
                obtain ⟨J, hJ⟩ : ∃ J, J = Sort.scanDown (fun x => !ltc cf x dk[a]!) dk I j := ⟨_, rfl⟩
                have HQ : Hid (L = if I > J then (J, dk) else if h : (J - 1) + 1 - (I + 1) < j + 1 - i0 then Sort.partLoop (ltc cf) a (I + 1) (J - 1) (Sort.swp dk I J) else (J, dk)) := by
                  show _ = _
                  rw [← HE.out, Sort.partLoop]
                  rw [hJ, hI]
                have HR1 : Hid (J < I → L = (J, dk)) := fun h => by rw [HQ.out, if_pos h]
                have HR2 : Hid (I ≤ J → i0 ≤ I → J ≤ j → L = Sort.partLoop (ltc cf) a (I + 1) (J - 1) (Sort.swp dk I J)) := fun h1 h2 h3 => by
                  rw [HQ.out, if_neg (by omega), dif_pos (by omega)]
                have HI := Lib.hid hI.symm
                have HJ := Lib.hid hJ.symm
                clear hI hJ HQ HE
                go_wp2
                go_loopw [12] (fun vi ws => ∃ (i : Nat), vi = .int .i64 (i : Int) ∧ i0 ≤ i ∧ i ≤ j + 1 ∧ Sd Ok B w0 Ts g n c Rs ws dk ∧ Sort.scanUp (fun x => ltc cf x dk[a]!) dk j i = I) (fun vi _ => j + 2 - (intOf vi).toNat)
                case atStart => exact ⟨i0, (by first | rfl | go_num), Nat.le_refl _, hij, HK.out, HI.out⟩
                case round =>
                  clear hij
                  obtain ⟨i, rfl, hi0, hij, hs, heq⟩ := hrel
                  have HK := Lib.hid hs
                  have HE := Lib.hid heq
                  clear hs heq HI
                  by_cases hle : i ≤ j
                  · have hin : i < n := by omega
                    have hgd : decide ((i : Int) ≤ (j : Int)) = true := decide_eq_true (by omega)
                    obtain ⟨x, hx⟩ : ∃ x, x = dk[i]! := ⟨_, rfl⟩
                    obtain ⟨y, hy⟩ : ∃ y, y = dk[a]! := ⟨_, rfl⟩
                    obtain ⟨z, hz⟩ : ∃ z, z = cf x y := ⟨_, rfl⟩
                    have ASK := Lib.hid (ask_at K HK.out hin han)
                    have CX := Lib.hid (cell_at HK.out hin)
                    have CY := Lib.hid (cell_at HK.out han)
                    rw [← hx, ← hy, ← hz] at ASK
                    rw [← hx] at CX
                    rw [← hy] at CY
                    have HIN : Hid (I = if ltc cf x y = true then Sort.scanUp (fun x => ltc cf x dk[a]!) dk j (i + 1) else i) := by
                      show _ = _
                      rw [← HE.out, Sort.scanUp]
                      simp only [← hx, ← hy]
                      by_cases h : ltc cf x y = true
                      · simp [hle, h]
                      · simp [hle, h]
                    clear HE
                    by_cases hlt : ltc cf x y = true
                    · have HT := Lib.hid (ltc_t hlt hz)
                      have HE2 : Hid (Sort.scanUp (fun x => ltc cf x dk[a]!) dk j (i + 1) = I) := by show _ = _; rw [HIN.out, if_pos hlt]
                      clear HIN hlt hz hx hy
                      go_wp2_with (fail)
                      refine lxX ?_; refine lxM (.int .i64 (i : Int)) rfl ?_; refine lxM (.int .i64 (j : Int)) rfl ?_; refine lxT (.tmp 105) (.tmp 106) (.int .i64 (i : Int)) (.int .i64 (j : Int)) (.bool true) (fun wx ρ hwx h0 h1 hc => leq_i rfl hgd ρ wx h0 h1) ?_; refine lxM (.bool true) rfl ?_; refine lxM (fvOf f bs cb) rfl ?_; refine lxM (.slice (some ⟨g, 0, none⟩) n c) rfl ?_; refine lxM (.int .i64 (i : Int)) rfl ?_; refine lxT (.tmp 110) (.tmp 111) (.slice (some ⟨g, 0, none⟩) n c) (.int .i64 (i : Int)) (.pointer (some ⟨g, i, none⟩)) (fun wx ρ hwx h0 h1 hc => idx_i rfl hin ρ wx h0 h1) ?_; refine lxR (.tmp 112) (.pointer (some ⟨g, i, none⟩)) (iV x) (fun wx ρ hwx h0 hc => load_i rfl ρ (CX.out wx hwx) h0) ?_; refine lxM (.slice (some ⟨g, 0, none⟩) n c) rfl ?_; refine lxM (.int .i64 (a : Int)) rfl ?_; refine lxT (.tmp 114) (.tmp 115) (.slice (some ⟨g, 0, none⟩) n c) (.int .i64 (a : Int)) (.pointer (some ⟨g, a, none⟩)) (fun wx ρ hwx h0 h1 hc => idx_i rfl han ρ wx h0 h1) ?_; refine lxR (.tmp 116) (.pointer (some ⟨g, a, none⟩)) (iV y) (fun wx ρ hwx h0 hc => load_i rfl ρ (CY.out wx hwx) h0) ?_
                      refine wpL_val (.int .i64 z) [iV x, iV y] (by kernel_rfl) (by kernel_rfl) rfl (by kernel_rfl) (by kernel_rfl) (by kernel_rfl) (by kernel_rfl) ENT.out (fun wx hwx => ASK.out wx hwx) ?_
                      refine lxR (.tmp 118) (.int .i64 z) (.bool true) (fun wx ρ hwx h0 hc => lss_i rfl HT.out ρ wx h0 (hc _)) ?_; refine lxB (.tmp 108) (.tmp 119) (.bool true) (.bool true) (.bool true) ?_
                      refine wpL_end (by kernel_rfl) (fun w1 hw1 => ?_)
                      simp only [FinL, setL, List.set_cons_zero, List.set_cons_succ]
                      have H1 := Lib.hid (HK.out.later hw1)
                      clear ASK CX CY
                      go_wp2
                      go_roundw
                      case rel => exact ⟨i + 1, by go_num, by omega, by omega, H1.out, HE2.out⟩
                      case measure => simp [intOf]; omega
                    · have hlf : ltc cf x y = false := by simpa using hlt
                      have HT := Lib.hid (ltc_t hlf hz)
                      have HEI : Hid (I = i) := by show _ = _; rw [HIN.out, if_neg hlt]
                      have HA : Hid (i ≤ j → ltc cf dk[i]! dk[a]! = false) := by intro _; rw [← hx, ← hy]; exact hlf
                      clear HIN hlt hlf hz hx hy hle
                      go_wp2_with (fail)
                      refine lxX ?_; refine lxM (.int .i64 (i : Int)) rfl ?_; refine lxM (.int .i64 (j : Int)) rfl ?_; refine lxT (.tmp 105) (.tmp 106) (.int .i64 (i : Int)) (.int .i64 (j : Int)) (.bool true) (fun wx ρ hwx h0 h1 hc => leq_i rfl hgd ρ wx h0 h1) ?_; refine lxM (.bool true) rfl ?_; refine lxM (fvOf f bs cb) rfl ?_; refine lxM (.slice (some ⟨g, 0, none⟩) n c) rfl ?_; refine lxM (.int .i64 (i : Int)) rfl ?_; refine lxT (.tmp 110) (.tmp 111) (.slice (some ⟨g, 0, none⟩) n c) (.int .i64 (i : Int)) (.pointer (some ⟨g, i, none⟩)) (fun wx ρ hwx h0 h1 hc => idx_i rfl hin ρ wx h0 h1) ?_; refine lxR (.tmp 112) (.pointer (some ⟨g, i, none⟩)) (iV x) (fun wx ρ hwx h0 hc => load_i rfl ρ (CX.out wx hwx) h0) ?_; refine lxM (.slice (some ⟨g, 0, none⟩) n c) rfl ?_; refine lxM (.int .i64 (a : Int)) rfl ?_; refine lxT (.tmp 114) (.tmp 115) (.slice (some ⟨g, 0, none⟩) n c) (.int .i64 (a : Int)) (.pointer (some ⟨g, a, none⟩)) (fun wx ρ hwx h0 h1 hc => idx_i rfl han ρ wx h0 h1) ?_; refine lxR (.tmp 116) (.pointer (some ⟨g, a, none⟩)) (iV y) (fun wx ρ hwx h0 hc => load_i rfl ρ (CY.out wx hwx) h0) ?_
                      refine wpL_val (.int .i64 z) [iV x, iV y] (by kernel_rfl) (by kernel_rfl) rfl (by kernel_rfl) (by kernel_rfl) (by kernel_rfl) (by kernel_rfl) ENT.out (fun wx hwx => ASK.out wx hwx) ?_
                      refine lxR (.tmp 118) (.int .i64 z) (.bool false) (fun wx ρ hwx h0 hc => lss_i rfl HT.out ρ wx h0 (hc _)) ?_; refine lxB (.tmp 108) (.tmp 119) (.bool true) (.bool false) (.bool false) ?_
                      refine wpL_end (by kernel_rfl) (fun w1 hw1 => ?_)
                      simp only [FinL, setL, List.set_cons_zero, List.set_cons_succ]
                      have H1 := Lib.hid (HK.out.later hw1)
                      clear ASK CX CY HT
                      have HJ0 : Hid (Sort.scanDown (fun x => !ltc cf x dk[a]!) dk i j = J) := by have e := HJ.out; rw [HEI.out] at e; exact e
                      have hi1 : 1 ≤ i := by omega
                      clear HJ
                      go_wp2
                      go_loopw [13] (fun vj ws => ∃ (j1 : Nat), vj = .int .i64 (j1 : Int) ∧ j1 ≤ j ∧ i ≤ j1 + 1 ∧ Sd Ok B w0 Ts g n c Rs ws dk ∧ Sort.scanDown (fun x => !ltc cf x dk[a]!) dk i j1 = J) (fun vj _ => (intOf vj).toNat)
                      case atStart => exact ⟨j, (by first | rfl | go_num), Nat.le_refl _, hij, H1.out, HJ0.out⟩
                      case round =>
                        obtain ⟨jd, rfl, hjj, hij1, hs, heq⟩ := hrel
                        have HK := Lib.hid hs
                        have HE := Lib.hid heq
                        clear hs heq HJ0 hij H1
                        by_cases hle2 : i ≤ jd
                        · have hjn : jd < n := by omega
                          have hgd : decide ((i : Int) ≤ (jd : Int)) = true := decide_eq_true (by omega)
                          obtain ⟨k, hjk⟩ : ∃ k, jd = k + 1 := ⟨jd - 1, by omega⟩
                          obtain ⟨x, hx⟩ : ∃ x, x = dk[jd]! := ⟨_, rfl⟩
                          obtain ⟨y, hy⟩ : ∃ y, y = dk[a]! := ⟨_, rfl⟩
                          obtain ⟨z, hz⟩ : ∃ z, z = cf x y := ⟨_, rfl⟩
                          have ASK := Lib.hid (ask_at K HK.out hjn han)
                          have CX := Lib.hid (cell_at HK.out hjn)
                          have CY := Lib.hid (cell_at HK.out han)
                          rw [← hx, ← hy, ← hz] at ASK
                          rw [← hx] at CX
                          rw [← hy] at CY
                          have HIN : Hid (J = if ltc cf x y = false then Sort.scanDown (fun x => !ltc cf x dk[a]!) dk i k else jd) := by
                            show _ = _
                            rw [← HE.out, hjk, Sort.scanDown, ← hjk]
                            simp only [← hx, ← hy]
                            by_cases h : ltc cf x y = true
                            · simp [hle2, h]
                            · simp [hle2, h]
                          have HJK := Lib.hid hjk
                          clear HE hjk
                          by_cases hlt : ltc cf x y = true
                          · have HT := Lib.hid (ltc_t hlt hz)
                            have HEJ : Hid (J = jd) := by show _ = _; rw [HIN.out, if_neg (by simp [hlt])]
                            have hne : i < jd := by
                              rcases Nat.lt_or_eq_of_le hle2 with h | h
                              · exact h
                              · exfalso; have ha := HA.out (by omega); rw [h] at ha; rw [← hx, ← hy] at ha; rw [ha] at hlt; cases hlt
                            clear HIN hlt hz hx hy hle2
                            go_wp2_with (fail)
                            refine lxX ?_; refine lxM (.int .i64 (i : Int)) rfl ?_; refine lxM (.int .i64 (jd : Int)) rfl ?_; refine lxT (.tmp 123) (.tmp 124) (.int .i64 (i : Int)) (.int .i64 (jd : Int)) (.bool true) (fun wx ρ hwx h0 h1 hc => leq_i rfl hgd ρ wx h0 h1) ?_; refine lxM (.bool true) rfl ?_; refine lxM (fvOf f bs cb) rfl ?_; refine lxM (.slice (some ⟨g, 0, none⟩) n c) rfl ?_; refine lxM (.int .i64 (jd : Int)) rfl ?_; refine lxT (.tmp 128) (.tmp 129) (.slice (some ⟨g, 0, none⟩) n c) (.int .i64 (jd : Int)) (.pointer (some ⟨g, jd, none⟩)) (fun wx ρ hwx h0 h1 hc => idx_i rfl hjn ρ wx h0 h1) ?_; refine lxR (.tmp 130) (.pointer (some ⟨g, jd, none⟩)) (iV x) (fun wx ρ hwx h0 hc => load_i rfl ρ (CX.out wx hwx) h0) ?_; refine lxM (.slice (some ⟨g, 0, none⟩) n c) rfl ?_; refine lxM (.int .i64 (a : Int)) rfl ?_; refine lxT (.tmp 132) (.tmp 133) (.slice (some ⟨g, 0, none⟩) n c) (.int .i64 (a : Int)) (.pointer (some ⟨g, a, none⟩)) (fun wx ρ hwx h0 h1 hc => idx_i rfl han ρ wx h0 h1) ?_; refine lxR (.tmp 134) (.pointer (some ⟨g, a, none⟩)) (iV y) (fun wx ρ hwx h0 hc => load_i rfl ρ (CY.out wx hwx) h0) ?_
                            refine wpL_val (.int .i64 z) [iV x, iV y] (by kernel_rfl) (by kernel_rfl) rfl (by kernel_rfl) (by kernel_rfl) (by kernel_rfl) (by kernel_rfl) ENT.out (fun wx hwx => ASK.out wx hwx) ?_
                            refine lxR (.tmp 136) (.int .i64 z) (.bool true) (fun wx ρ hwx h0 hc => lss_i rfl HT.out ρ wx h0 (hc _)) ?_; refine lxR (.tmp 137) (.bool true) (.bool false) (fun wx ρ hwx h0 hc => not_b rfl rfl ρ wx h0) ?_; refine lxB (.tmp 126) (.tmp 138) (.bool true) (.bool false) (.bool false) ?_
                            refine wpL_end (by kernel_rfl) (fun w1 hw1 => ?_)
                            simp only [FinL, setL, List.set_cons_zero, List.set_cons_succ]
                            have H1 := Lib.hid (HK.out.later hw1)
                            clear ASK CX CY HT hgd
                            have hgI : ¬ (jd : Int) < (i : Int) := by omega
                            have hin : i < n := by omega
                            have HRR : Hid (Sort.partLoop (ltc cf) a (i + 1) (jd - 1) (Sort.swp dk i jd) = L) := by show _ = _; rw [HR2.out (by rw [HEI.out, HEJ.out]; omega) (by rw [HEI.out]; omega) (by rw [HEJ.out]; omega), HEI.out, HEJ.out]
                            clear HEI HEJ HR1 HR2
                            obtain ⟨xi, hxi⟩ : ∃ x, x = dk[i]! := ⟨_, rfl⟩
                            obtain ⟨xj, hxj⟩ : ∃ x, x = dk[jd]! := ⟨_, rfl⟩
                            have H2 := Lib.hid (H1.out.swap hin hjn).drew
                            have k1 := H1.out.cell hin
                            have k2 := H1.out.cell hjn
                            have f1 := H1.out.froz hin
                            have f2 := H1.out.froz hjn
                            obtain ⟨u, k3⟩ := H1.out.swap2 hin hjn
                            rw [← hxi, ← hxj] at H2
                            rw [← hxi] at k1
                            rw [← hxj] at k2 k3
                            clear hxi hxj
                            go_wp2_with (fail)
                            go_region
                            clear k1 k2 k3 f1 f2
                            obtain ⟨k9, hk9⟩ : ∃ k, jd = k + 1 := ⟨jd - 1, by omega⟩
                            have hk9I : (jd : Int) - 1 = (k9 : Int) := by omega
                            have HK9 := Lib.hid hk9
                            clear hk9
                            go_wp2
                            go_roundw
                            case rel => exact ⟨i + 1, k9, Sort.swp dk i jd, by go_num, (by first | rfl | go_num), by omega, by have := HK9.out; omega, by have := HK9.out; omega, H2.out, by have := HRR.out; rw [HK9.out] at this ⊢; exact this⟩
                            case measure => have := HK9.out; simp [intOf]; omega
                          · have hlf : ltc cf x y = false := by simpa using hlt
                            have HT := Lib.hid (ltc_t hlf hz)
                            have HE2 : Hid (Sort.scanDown (fun x => !ltc cf x dk[a]!) dk i k = J) := by show _ = _; rw [HIN.out, if_pos hlf]
                            clear HIN hlt hlf hz hx hy
                            go_wp2_with (fail)
                            refine lxX ?_; refine lxM (.int .i64 (i : Int)) rfl ?_; refine lxM (.int .i64 (jd : Int)) rfl ?_; refine lxT (.tmp 123) (.tmp 124) (.int .i64 (i : Int)) (.int .i64 (jd : Int)) (.bool true) (fun wx ρ hwx h0 h1 hc => leq_i rfl hgd ρ wx h0 h1) ?_; refine lxM (.bool true) rfl ?_; refine lxM (fvOf f bs cb) rfl ?_; refine lxM (.slice (some ⟨g, 0, none⟩) n c) rfl ?_; refine lxM (.int .i64 (jd : Int)) rfl ?_; refine lxT (.tmp 128) (.tmp 129) (.slice (some ⟨g, 0, none⟩) n c) (.int .i64 (jd : Int)) (.pointer (some ⟨g, jd, none⟩)) (fun wx ρ hwx h0 h1 hc => idx_i rfl hjn ρ wx h0 h1) ?_; refine lxR (.tmp 130) (.pointer (some ⟨g, jd, none⟩)) (iV x) (fun wx ρ hwx h0 hc => load_i rfl ρ (CX.out wx hwx) h0) ?_; refine lxM (.slice (some ⟨g, 0, none⟩) n c) rfl ?_; refine lxM (.int .i64 (a : Int)) rfl ?_; refine lxT (.tmp 132) (.tmp 133) (.slice (some ⟨g, 0, none⟩) n c) (.int .i64 (a : Int)) (.pointer (some ⟨g, a, none⟩)) (fun wx ρ hwx h0 h1 hc => idx_i rfl han ρ wx h0 h1) ?_; refine lxR (.tmp 134) (.pointer (some ⟨g, a, none⟩)) (iV y) (fun wx ρ hwx h0 hc => load_i rfl ρ (CY.out wx hwx) h0) ?_
                            refine wpL_val (.int .i64 z) [iV x, iV y] (by kernel_rfl) (by kernel_rfl) rfl (by kernel_rfl) (by kernel_rfl) (by kernel_rfl) (by kernel_rfl) ENT.out (fun wx hwx => ASK.out wx hwx) ?_
                            refine lxR (.tmp 136) (.int .i64 z) (.bool false) (fun wx ρ hwx h0 hc => lss_i rfl HT.out ρ wx h0 (hc _)) ?_; refine lxR (.tmp 137) (.bool false) (.bool true) (fun wx ρ hwx h0 hc => not_b rfl rfl ρ wx h0) ?_; refine lxB (.tmp 126) (.tmp 138) (.bool true) (.bool true) (.bool true) ?_
                            refine wpL_end (by kernel_rfl) (fun w1 hw1 => ?_)
                            simp only [FinL, setL, List.set_cons_zero, List.set_cons_succ]
                            have H1 := Lib.hid (HK.out.later hw1)
                            have hjkI : (jd : Int) - 1 = (k : Int) := by have := HJK.out; omega
                            clear ASK CX CY
                            go_wp2
                            go_roundw
                            case rel => exact ⟨k, (by first | rfl | go_num), by have := HJK.out; omega, by have := HJK.out; omega, H1.out, HE2.out⟩
                            case measure => have := HJK.out; simp [intOf]; omega
                        · have hgd : decide ((i : Int) ≤ (jd : Int)) = false := decide_eq_false (by omega)
                          have HEJ : Hid (J = jd) := by
                            show _ = _
                            rw [← HE.out]
                            cases jd with
                            | zero => rfl
                            | succ k => rw [Sort.scanDown, if_neg (by simp [hle2])]
                          have hgt : jd < i := by omega
                          clear HE hle2
                          go_wp2_with (fail)
                          refine lxX ?_; refine lxM (.int .i64 (i : Int)) rfl ?_; refine lxM (.int .i64 (jd : Int)) rfl ?_; refine lxT (.tmp 123) (.tmp 124) (.int .i64 (i : Int)) (.int .i64 (jd : Int)) (.bool false) (fun wx ρ hwx h0 h1 hc => leq_i rfl hgd ρ wx h0 h1) ?_; refine lxM (.bool false) rfl ?_; refine lxS ?_; refine lxS ?_; refine lxS ?_; refine lxS ?_; refine lxS ?_; refine lxS ?_; refine lxS ?_; refine lxS ?_; refine lxS ?_; refine lxS ?_; refine lxS ?_; refine lxS ?_; refine lxR (.tmp 126) (.bool false) (.bool false) (fun wx ρ hwx h0 hc => by simp [go_sem, h0, hc]) ?_
                          refine wpL_end (by kernel_rfl) (fun w1 hw1 => ?_)
                          simp only [FinL, setL, List.set_cons_zero, List.set_cons_succ]
                          have H1 := Lib.hid (HK.out.later hw1)
                          clear hgd
                          have hgI : (jd : Int) < (i : Int) := by omega
                          have hjn : jd < n := by omega
                          have HRR : Hid (R = (jd, false, Sort.swp dk jd a)) := by show _ = _; rw [HRL.out, HR1.out (by rw [HEI.out, HEJ.out]; exact hgt), HEJ.out]
                          clear HEI HEJ
                          obtain ⟨xi, hxi⟩ : ∃ x, x = dk[jd]! := ⟨_, rfl⟩
                          obtain ⟨xj, hxj⟩ : ∃ x, x = dk[a]! := ⟨_, rfl⟩
                          have H2 := Lib.hid (H1.out.swap hjn han).drew
                          have k1 := H1.out.cell hjn
                          have k2 := H1.out.cell han
                          have f1 := H1.out.froz hjn
                          have f2 := H1.out.froz han
                          obtain ⟨u, k3⟩ := H1.out.swap2 hjn han
                          rw [← hxi, ← hxj] at H2
                          rw [← hxi] at k1
                          rw [← hxj] at k2 k3
                          clear hxi hxj
                          go_wp2_with (fail)
                          go_region
                          go_wp2
                          go_ret2
                          rw [HRR.out]
                          exact ⟨rfl, H2.out⟩
                  · have hgd : decide ((i : Int) ≤ (j : Int)) = false := decide_eq_false (by omega)
                    have HEI : Hid (I = i) := by show _ = _; rw [← HE.out, Sort.scanUp, if_neg (by simp [hle])]
                    have HA : Hid (i ≤ j → ltc cf dk[i]! dk[a]! = false) := fun h => absurd h hle
                    clear HE
                    go_wp2_with (fail)
                    refine lxX ?_; refine lxM (.int .i64 (i : Int)) rfl ?_; refine lxM (.int .i64 (j : Int)) rfl ?_; refine lxT (.tmp 105) (.tmp 106) (.int .i64 (i : Int)) (.int .i64 (j : Int)) (.bool false) (fun wx ρ hwx h0 h1 hc => leq_i rfl hgd ρ wx h0 h1) ?_; refine lxM (.bool false) rfl ?_; refine lxS ?_; refine lxS ?_; refine lxS ?_; refine lxS ?_; refine lxS ?_; refine lxS ?_; refine lxS ?_; refine lxS ?_; refine lxS ?_; refine lxS ?_; refine lxS ?_; refine lxR (.tmp 108) (.bool false) (.bool false) (fun wx ρ hwx h0 hc => by simp [go_sem, h0, hc]) ?_
                    refine wpL_end (by kernel_rfl) (fun w1 hw1 => ?_)
                    simp only [FinL, setL, List.set_cons_zero, List.set_cons_succ]
                    have H1 := Lib.hid (HK.out.later hw1)
                    clear hle
                    have HJ0 : Hid (Sort.scanDown (fun x => !ltc cf x dk[a]!) dk i j = J) := by have e := HJ.out; rw [HEI.out] at e; exact e
                    have hi1 : 1 ≤ i := by omega
                    clear HJ
                    go_wp2
                    go_loopw [13] (fun vj ws => ∃ (j1 : Nat), vj = .int .i64 (j1 : Int) ∧ j1 ≤ j ∧ i ≤ j1 + 1 ∧ Sd Ok B w0 Ts g n c Rs ws dk ∧ Sort.scanDown (fun x => !ltc cf x dk[a]!) dk i j1 = J) (fun vj _ => (intOf vj).toNat)
                    case atStart => exact ⟨j, (by first | rfl | go_num), Nat.le_refl _, hij, H1.out, HJ0.out⟩
                    case round =>
                      obtain ⟨jd, rfl, hjj, hij1, hs, heq⟩ := hrel
                      have HK := Lib.hid hs
                      have HE := Lib.hid heq
                      clear hs heq HJ0 hij H1
                      by_cases hle2 : i ≤ jd
                      · have hjn : jd < n := by omega
                        have hgd : decide ((i : Int) ≤ (jd : Int)) = true := decide_eq_true (by omega)
                        obtain ⟨k, hjk⟩ : ∃ k, jd = k + 1 := ⟨jd - 1, by omega⟩
                        obtain ⟨x, hx⟩ : ∃ x, x = dk[jd]! := ⟨_, rfl⟩
                        obtain ⟨y, hy⟩ : ∃ y, y = dk[a]! := ⟨_, rfl⟩
                        obtain ⟨z, hz⟩ : ∃ z, z = cf x y := ⟨_, rfl⟩
                        have ASK := Lib.hid (ask_at K HK.out hjn han)
                        have CX := Lib.hid (cell_at HK.out hjn)
                        have CY := Lib.hid (cell_at HK.out han)
                        rw [← hx, ← hy, ← hz] at ASK
                        rw [← hx] at CX
                        rw [← hy] at CY
                        have HIN : Hid (J = if ltc cf x y = false then Sort.scanDown (fun x => !ltc cf x dk[a]!) dk i k else jd) := by
                          show _ = _
                          rw [← HE.out, hjk, Sort.scanDown, ← hjk]
                          simp only [← hx, ← hy]
                          by_cases h : ltc cf x y = true
                          · simp [hle2, h]
                          · simp [hle2, h]
                        have HJK := Lib.hid hjk
                        clear HE hjk
                        by_cases hlt : ltc cf x y = true
                        · have HT := Lib.hid (ltc_t hlt hz)
                          have HEJ : Hid (J = jd) := by show _ = _; rw [HIN.out, if_neg (by simp [hlt])]
                          have hne : i < jd := by
                            rcases Nat.lt_or_eq_of_le hle2 with h | h
                            · exact h
                            · exfalso; have ha := HA.out (by omega); rw [h] at ha; rw [← hx, ← hy] at ha; rw [ha] at hlt; cases hlt
                          clear HIN hlt hz hx hy hle2
                          go_wp2_with (fail)
                          refine lxX ?_; refine lxM (.int .i64 (i : Int)) rfl ?_; refine lxM (.int .i64 (jd : Int)) rfl ?_; refine lxT (.tmp 123) (.tmp 124) (.int .i64 (i : Int)) (.int .i64 (jd : Int)) (.bool true) (fun wx ρ hwx h0 h1 hc => leq_i rfl hgd ρ wx h0 h1) ?_; refine lxM (.bool true) rfl ?_; refine lxM (fvOf f bs cb) rfl ?_; refine lxM (.slice (some ⟨g, 0, none⟩) n c) rfl ?_; refine lxM (.int .i64 (jd : Int)) rfl ?_; refine lxT (.tmp 128) (.tmp 129) (.slice (some ⟨g, 0, none⟩) n c) (.int .i64 (jd : Int)) (.pointer (some ⟨g, jd, none⟩)) (fun wx ρ hwx h0 h1 hc => idx_i rfl hjn ρ wx h0 h1) ?_; refine lxR (.tmp 130) (.pointer (some ⟨g, jd, none⟩)) (iV x) (fun wx ρ hwx h0 hc => load_i rfl ρ (CX.out wx hwx) h0) ?_; refine lxM (.slice (some ⟨g, 0, none⟩) n c) rfl ?_; refine lxM (.int .i64 (a : Int)) rfl ?_; refine lxT (.tmp 132) (.tmp 133) (.slice (some ⟨g, 0, none⟩) n c) (.int .i64 (a : Int)) (.pointer (some ⟨g, a, none⟩)) (fun wx ρ hwx h0 h1 hc => idx_i rfl han ρ wx h0 h1) ?_; refine lxR (.tmp 134) (.pointer (some ⟨g, a, none⟩)) (iV y) (fun wx ρ hwx h0 hc => load_i rfl ρ (CY.out wx hwx) h0) ?_
                          refine wpL_val (.int .i64 z) [iV x, iV y] (by kernel_rfl) (by kernel_rfl) rfl (by kernel_rfl) (by kernel_rfl) (by kernel_rfl) (by kernel_rfl) ENT.out (fun wx hwx => ASK.out wx hwx) ?_
                          refine lxR (.tmp 136) (.int .i64 z) (.bool true) (fun wx ρ hwx h0 hc => lss_i rfl HT.out ρ wx h0 (hc _)) ?_; refine lxR (.tmp 137) (.bool true) (.bool false) (fun wx ρ hwx h0 hc => not_b rfl rfl ρ wx h0) ?_; refine lxB (.tmp 126) (.tmp 138) (.bool true) (.bool false) (.bool false) ?_
                          refine wpL_end (by kernel_rfl) (fun w1 hw1 => ?_)
                          simp only [FinL, setL, List.set_cons_zero, List.set_cons_succ]
                          have H1 := Lib.hid (HK.out.later hw1)
                          clear ASK CX CY HT hgd
                          have hgI : ¬ (jd : Int) < (i : Int) := by omega
                          have hin : i < n := by omega
                          have HRR : Hid (Sort.partLoop (ltc cf) a (i + 1) (jd - 1) (Sort.swp dk i jd) = L) := by show _ = _; rw [HR2.out (by rw [HEI.out, HEJ.out]; omega) (by rw [HEI.out]; omega) (by rw [HEJ.out]; omega), HEI.out, HEJ.out]
                          clear HEI HEJ HR1 HR2
                          obtain ⟨xi, hxi⟩ : ∃ x, x = dk[i]! := ⟨_, rfl⟩
                          obtain ⟨xj, hxj⟩ : ∃ x, x = dk[jd]! := ⟨_, rfl⟩
                          have H2 := Lib.hid (H1.out.swap hin hjn).drew
                          have k1 := H1.out.cell hin
                          have k2 := H1.out.cell hjn
                          have f1 := H1.out.froz hin
                          have f2 := H1.out.froz hjn
                          obtain ⟨u, k3⟩ := H1.out.swap2 hin hjn
                          rw [← hxi, ← hxj] at H2
                          rw [← hxi] at k1
                          rw [← hxj] at k2 k3
                          clear hxi hxj
                          go_wp2_with (fail)
                          go_region
                          clear k1 k2 k3 f1 f2
                          obtain ⟨k9, hk9⟩ : ∃ k, jd = k + 1 := ⟨jd - 1, by omega⟩
                          have hk9I : (jd : Int) - 1 = (k9 : Int) := by omega
                          have HK9 := Lib.hid hk9
                          clear hk9
                          go_wp2
                          go_roundw
                          case rel => exact ⟨i + 1, k9, Sort.swp dk i jd, by go_num, (by first | rfl | go_num), by omega, by have := HK9.out; omega, by have := HK9.out; omega, H2.out, by have := HRR.out; rw [HK9.out] at this ⊢; exact this⟩
                          case measure => have := HK9.out; simp [intOf]; omega
                        · have hlf : ltc cf x y = false := by simpa using hlt
                          have HT := Lib.hid (ltc_t hlf hz)
                          have HE2 : Hid (Sort.scanDown (fun x => !ltc cf x dk[a]!) dk i k = J) := by show _ = _; rw [HIN.out, if_pos hlf]
                          clear HIN hlt hlf hz hx hy
                          go_wp2_with (fail)
                          refine lxX ?_; refine lxM (.int .i64 (i : Int)) rfl ?_; refine lxM (.int .i64 (jd : Int)) rfl ?_; refine lxT (.tmp 123) (.tmp 124) (.int .i64 (i : Int)) (.int .i64 (jd : Int)) (.bool true) (fun wx ρ hwx h0 h1 hc => leq_i rfl hgd ρ wx h0 h1) ?_; refine lxM (.bool true) rfl ?_; refine lxM (fvOf f bs cb) rfl ?_; refine lxM (.slice (some ⟨g, 0, none⟩) n c) rfl ?_; refine lxM (.int .i64 (jd : Int)) rfl ?_; refine lxT (.tmp 128) (.tmp 129) (.slice (some ⟨g, 0, none⟩) n c) (.int .i64 (jd : Int)) (.pointer (some ⟨g, jd, none⟩)) (fun wx ρ hwx h0 h1 hc => idx_i rfl hjn ρ wx h0 h1) ?_; refine lxR (.tmp 130) (.pointer (some ⟨g, jd, none⟩)) (iV x) (fun wx ρ hwx h0 hc => load_i rfl ρ (CX.out wx hwx) h0) ?_; refine lxM (.slice (some ⟨g, 0, none⟩) n c) rfl ?_; refine lxM (.int .i64 (a : Int)) rfl ?_; refine lxT (.tmp 132) (.tmp 133) (.slice (some ⟨g, 0, none⟩) n c) (.int .i64 (a : Int)) (.pointer (some ⟨g, a, none⟩)) (fun wx ρ hwx h0 h1 hc => idx_i rfl han ρ wx h0 h1) ?_; refine lxR (.tmp 134) (.pointer (some ⟨g, a, none⟩)) (iV y) (fun wx ρ hwx h0 hc => load_i rfl ρ (CY.out wx hwx) h0) ?_
                          refine wpL_val (.int .i64 z) [iV x, iV y] (by kernel_rfl) (by kernel_rfl) rfl (by kernel_rfl) (by kernel_rfl) (by kernel_rfl) (by kernel_rfl) ENT.out (fun wx hwx => ASK.out wx hwx) ?_
                          refine lxR (.tmp 136) (.int .i64 z) (.bool false) (fun wx ρ hwx h0 hc => lss_i rfl HT.out ρ wx h0 (hc _)) ?_; refine lxR (.tmp 137) (.bool false) (.bool true) (fun wx ρ hwx h0 hc => not_b rfl rfl ρ wx h0) ?_; refine lxB (.tmp 126) (.tmp 138) (.bool true) (.bool true) (.bool true) ?_
                          refine wpL_end (by kernel_rfl) (fun w1 hw1 => ?_)
                          simp only [FinL, setL, List.set_cons_zero, List.set_cons_succ]
                          have H1 := Lib.hid (HK.out.later hw1)
                          have hjkI : (jd : Int) - 1 = (k : Int) := by have := HJK.out; omega
                          clear ASK CX CY
                          go_wp2
                          go_roundw
                          case rel => exact ⟨k, (by first | rfl | go_num), by have := HJK.out; omega, by have := HJK.out; omega, H1.out, HE2.out⟩
                          case measure => have := HJK.out; simp [intOf]; omega
                      · have hgd : decide ((i : Int) ≤ (jd : Int)) = false := decide_eq_false (by omega)
                        have HEJ : Hid (J = jd) := by
                          show _ = _
                          rw [← HE.out]
                          cases jd with
                          | zero => rfl
                          | succ k => rw [Sort.scanDown, if_neg (by simp [hle2])]
                        have hgt : jd < i := by omega
                        clear HE hle2
                        go_wp2_with (fail)
                        refine lxX ?_; refine lxM (.int .i64 (i : Int)) rfl ?_; refine lxM (.int .i64 (jd : Int)) rfl ?_; refine lxT (.tmp 123) (.tmp 124) (.int .i64 (i : Int)) (.int .i64 (jd : Int)) (.bool false) (fun wx ρ hwx h0 h1 hc => leq_i rfl hgd ρ wx h0 h1) ?_; refine lxM (.bool false) rfl ?_; refine lxS ?_; refine lxS ?_; refine lxS ?_; refine lxS ?_; refine lxS ?_; refine lxS ?_; refine lxS ?_; refine lxS ?_; refine lxS ?_; refine lxS ?_; refine lxS ?_; refine lxS ?_; refine lxR (.tmp 126) (.bool false) (.bool false) (fun wx ρ hwx h0 hc => by simp [go_sem, h0, hc]) ?_
                        refine wpL_end (by kernel_rfl) (fun w1 hw1 => ?_)
                        simp only [FinL, setL, List.set_cons_zero, List.set_cons_succ]
                        have H1 := Lib.hid (HK.out.later hw1)
                        clear hgd
                        have hgI : (jd : Int) < (i : Int) := by omega
                        have hjn : jd < n := by omega
                        have HRR : Hid (R = (jd, false, Sort.swp dk jd a)) := by show _ = _; rw [HRL.out, HR1.out (by rw [HEI.out, HEJ.out]; exact hgt), HEJ.out]
                        clear HEI HEJ
                        obtain ⟨xi, hxi⟩ : ∃ x, x = dk[jd]! := ⟨_, rfl⟩
                        obtain ⟨xj, hxj⟩ : ∃ x, x = dk[a]! := ⟨_, rfl⟩
                        have H2 := Lib.hid (H1.out.swap hjn han).drew
                        have k1 := H1.out.cell hjn
                        have k2 := H1.out.cell han
                        have f1 := H1.out.froz hjn
                        have f2 := H1.out.froz han
                        obtain ⟨u, k3⟩ := H1.out.swap2 hjn han
                        rw [← hxi, ← hxj] at H2
                        rw [← hxi] at k1
                        rw [← hxj] at k2 k3
                        clear hxi hxj
                        go_wp2_with (fail)
                        go_region
                        go_wp2
                        go_ret2
                        rw [HRR.out]
                        exact ⟨rfl, H2.out⟩
            · have hlf : ltc cf x y = false := by simpa using hlt
              have HT := Lib.hid (ltc_t hlf hz)
              have HE2 : Hid (Sort.scanDown (fun x => !ltc cf x dk[a]!) dk i k = J) := by show _ = _; rw [HIN.out, if_pos hlf]
              clear HIN hlt hlf hz hx hy
              go_wp2_with (fail)
              refine lxX ?_; refine lxM (.int .i64 (i : Int)) rfl ?_; refine lxM (.int .i64 (jd : Int)) rfl ?_; refine lxT (.tmp 50) (.tmp 51) (.int .i64 (i : Int)) (.int .i64 (jd : Int)) (.bool true) (fun wx ρ hwx h0 h1 hc => leq_i rfl hgd ρ wx h0 h1) ?_; refine lxM (.bool true) rfl ?_; refine lxM (fvOf f bs cb) rfl ?_; refine lxM (.slice (some ⟨g, 0, none⟩) n c) rfl ?_; refine lxM (.int .i64 (jd : Int)) rfl ?_; refine lxT (.tmp 55) (.tmp 56) (.slice (some ⟨g, 0, none⟩) n c) (.int .i64 (jd : Int)) (.pointer (some ⟨g, jd, none⟩)) (fun wx ρ hwx h0 h1 hc => idx_i rfl hjn ρ wx h0 h1) ?_; refine lxR (.tmp 57) (.pointer (some ⟨g, jd, none⟩)) (iV x) (fun wx ρ hwx h0 hc => load_i rfl ρ (CX.out wx hwx) h0) ?_; refine lxM (.slice (some ⟨g, 0, none⟩) n c) rfl ?_; refine lxM (.int .i64 (a : Int)) rfl ?_; refine lxT (.tmp 59) (.tmp 60) (.slice (some ⟨g, 0, none⟩) n c) (.int .i64 (a : Int)) (.pointer (some ⟨g, a, none⟩)) (fun wx ρ hwx h0 h1 hc => idx_i rfl han ρ wx h0 h1) ?_; refine lxR (.tmp 61) (.pointer (some ⟨g, a, none⟩)) (iV y) (fun wx ρ hwx h0 hc => load_i rfl ρ (CY.out wx hwx) h0) ?_
              refine wpL_val (.int .i64 z) [iV x, iV y] (by kernel_rfl) (by kernel_rfl) rfl (by kernel_rfl) (by kernel_rfl) (by kernel_rfl) (by kernel_rfl) ENT.out (fun wx hwx => ASK.out wx hwx) ?_
              refine lxR (.tmp 63) (.int .i64 z) (.bool false) (fun wx ρ hwx h0 hc => lss_i rfl HT.out ρ wx h0 (hc _)) ?_; refine lxR (.tmp 64) (.bool false) (.bool true) (fun wx ρ hwx h0 hc => not_b rfl rfl ρ wx h0) ?_; refine lxB (.tmp 53) (.tmp 65) (.bool true) (.bool true) (.bool true) ?_
              refine wpL_end (by kernel_rfl) (fun w1 hw1 => ?_)
              simp only [FinL, setL, List.set_cons_zero, List.set_cons_succ]
              have H1 := Lib.hid (HK.out.later hw1)
              have hjkI : (jd : Int) - 1 = (k : Int) := by have := HJK.out; omega
              clear ASK CX CY
              go_wp2
              go_roundw
              case rel => exact ⟨k, (by first | rfl | go_num), by have := HJK.out; omega, by have := HJK.out; omega, H1.out, HE2.out⟩
              case measure => have := HJK.out; simp [intOf]; omega
          · have hgd : decide ((i : Int) ≤ (jd : Int)) = false := decide_eq_false (by omega)
            have HEJ : Hid (J = jd) := by
              show _ = _
              rw [← HE.out]
              cases jd with
              | zero => rfl
              | succ k => rw [Sort.scanDown, if_neg (by simp [hle2])]
            have hgt : jd < i := by omega
            clear HE hle2
            go_wp2_with (fail)
            refine lxX ?_; refine lxM (.int .i64 (i : Int)) rfl ?_; refine lxM (.int .i64 (jd : Int)) rfl ?_; refine lxT (.tmp 50) (.tmp 51) (.int .i64 (i : Int)) (.int .i64 (jd : Int)) (.bool false) (fun wx ρ hwx h0 h1 hc => leq_i rfl hgd ρ wx h0 h1) ?_; refine lxM (.bool false) rfl ?_; refine lxS ?_; refine lxS ?_; refine lxS ?_; refine lxS ?_; refine lxS ?_; refine lxS ?_; refine lxS ?_; refine lxS ?_; refine lxS ?_; refine lxS ?_; refine lxS ?_; refine lxS ?_; refine lxR (.tmp 53) (.bool false) (.bool false) (fun wx ρ hwx h0 hc => by simp [go_sem, h0, hc]) ?_
            refine wpL_end (by kernel_rfl) (fun w1 hw1 => ?_)
            simp only [FinL, setL, List.set_cons_zero, List.set_cons_succ]
            have H1 := Lib.hid (HK.out.later hw1)
            clear hgd
            have hgI : (jd : Int) < (i : Int) := by omega
            have hjn : jd < n := by omega
            have HRR : Hid (R = (jd, true, Sort.swp dk jd a)) := by show _ = _; rw [HR1.out (by rw [HEI.out, HEJ.out]; exact hgt), HEJ.out]
            clear HEI HEJ
            obtain ⟨xi, hxi⟩ : ∃ x, x = dk[jd]! := ⟨_, rfl⟩
            obtain ⟨xj, hxj⟩ : ∃ x, x = dk[a]! := ⟨_, rfl⟩
            have H2 := Lib.hid (H1.out.swap hjn han).drew
            have k1 := H1.out.cell hjn
            have k2 := H1.out.cell han
            have f1 := H1.out.froz hjn
            have f2 := H1.out.froz han
            obtain ⟨u, k3⟩ := H1.out.swap2 hjn han
            rw [← hxi, ← hxj] at H2
            rw [← hxi] at k1
            rw [← hxj] at k2 k3
            clear hxi hxj
            go_wp2_with (fail)
            go_region
            go_wp2
            go_ret2
            rw [HRR.out]
            exact ⟨rfl, H2.out⟩
    · have hgd : decide ((i : Int) ≤ (j : Int)) = false := decide_eq_false (by omega)
      have HEI : Hid (I = i) := by show _ = _; rw [← HE.out, Sort.scanUp, if_neg (by simp [hle])]
      have HA : Hid (i ≤ j → ltc cf dk[i]! dk[a]! = false) := fun h => absurd h hle
      clear HE
      go_wp2_with (fail)
      refine lxX ?_; refine lxM (.int .i64 (i : Int)) rfl ?_; refine lxM (.int .i64 (j : Int)) rfl ?_; refine lxT (.tmp 32) (.tmp 33) (.int .i64 (i : Int)) (.int .i64 (j : Int)) (.bool false) (fun wx ρ hwx h0 h1 hc => leq_i rfl hgd ρ wx h0 h1) ?_; refine lxM (.bool false) rfl ?_; refine lxS ?_; refine lxS ?_; refine lxS ?_; refine lxS ?_; refine lxS ?_; refine lxS ?_; refine lxS ?_; refine lxS ?_; refine lxS ?_; refine lxS ?_; refine lxS ?_; refine lxR (.tmp 35) (.bool false) (.bool false) (fun wx ρ hwx h0 hc => by simp [go_sem, h0, hc]) ?_
      refine wpL_end (by kernel_rfl) (fun w1 hw1 => ?_)
      simp only [FinL, setL, List.set_cons_zero, List.set_cons_succ]
      have H1 := Lib.hid (HK.out.later hw1)
      clear hle
      have HJ0 : Hid (Sort.scanDown (fun x => !ltc cf x dk[a]!) dk i j = J) := by have e := HJ.out; rw [HEI.out] at e; exact e
      have hi1 : 1 ≤ i := by omega
      clear HJ
      go_wp2
      go_loopw [13] (fun vj ws => ∃ (j1 : Nat), vj = .int .i64 (j1 : Int) ∧ j1 ≤ j ∧ i ≤ j1 + 1 ∧ Sd Ok B w0 Ts g n c Rs ws dk ∧ Sort.scanDown (fun x => !ltc cf x dk[a]!) dk i j1 = J) (fun vj _ => (intOf vj).toNat)
      case atStart => exact ⟨j, (by first | rfl | go_num), Nat.le_refl _, hij, H1.out, HJ0.out⟩
      case round =>
        obtain ⟨jd, rfl, hjj, hij1, hs, heq⟩ := hrel
        have HK := Lib.hid hs
        have HE := Lib.hid heq
        clear hs heq HJ0 hij H1
        by_cases hle2 : i ≤ jd
        · have hjn : jd < n := by omega
          have hgd : decide ((i : Int) ≤ (jd : Int)) = true := decide_eq_true (by omega)
          obtain ⟨k, hjk⟩ : ∃ k, jd = k + 1 := ⟨jd - 1, by omega⟩
          obtain ⟨x, hx⟩ : ∃ x, x = dk[jd]! := ⟨_, rfl⟩
          obtain ⟨y, hy⟩ : ∃ y, y = dk[a]! := ⟨_, rfl⟩
          obtain ⟨z, hz⟩ : ∃ z, z = cf x y := ⟨_, rfl⟩
          have ASK := Lib.hid (ask_at K HK.out hjn han)
          have CX := Lib.hid (cell_at HK.out hjn)
          have CY := Lib.hid (cell_at HK.out han)
          rw [← hx, ← hy, ← hz] at ASK
          rw [← hx] at CX
          rw [← hy] at CY
          have HIN : Hid (J = if ltc cf x y = false then Sort.scanDown (fun x => !ltc cf x dk[a]!) dk i k else jd) := by
            show _ = _
            rw [← HE.out, hjk, Sort.scanDown, ← hjk]
            simp only [← hx, ← hy]
            by_cases h : ltc cf x y = true
            · simp [hle2, h]
            · simp [hle2, h]
          have HJK := Lib.hid hjk
          clear HE hjk
          by_cases hlt : ltc cf x y = true
          · have HT := Lib.hid (ltc_t hlt hz)
            have HEJ : Hid (J = jd) := by show _ = _; rw [HIN.out, if_neg (by simp [hlt])]
            have hne : i < jd := by
              rcases Nat.lt_or_eq_of_le hle2 with h | h
              · exact h
              · exfalso; have ha := HA.out (by omega); rw [h] at ha; rw [← hx, ← hy] at ha; rw [ha] at hlt; cases hlt
            clear HIN hlt hz hx hy hle2
            go_wp2_with (fail)
            refine lxX ?_; refine lxM (.int .i64 (i : Int)) rfl ?_; refine lxM (.int .i64 (jd : Int)) rfl ?_; refine lxT (.tmp 50) (.tmp 51) (.int .i64 (i : Int)) (.int .i64 (jd : Int)) (.bool true) (fun wx ρ hwx h0 h1 hc => leq_i rfl hgd ρ wx h0 h1) ?_; refine lxM (.bool true) rfl ?_; refine lxM (fvOf f bs cb) rfl ?_; refine lxM (.slice (some ⟨g, 0, none⟩) n c) rfl ?_; refine lxM (.int .i64 (jd : Int)) rfl ?_; refine lxT (.tmp 55) (.tmp 56) (.slice (some ⟨g, 0, none⟩) n c) (.int .i64 (jd : Int)) (.pointer (some ⟨g, jd, none⟩)) (fun wx ρ hwx h0 h1 hc => idx_i rfl hjn ρ wx h0 h1) ?_; refine lxR (.tmp 57) (.pointer (some ⟨g, jd, none⟩)) (iV x) (fun wx ρ hwx h0 hc => load_i rfl ρ (CX.out wx hwx) h0) ?_; refine lxM (.slice (some ⟨g, 0, none⟩) n c) rfl ?_; refine lxM (.int .i64 (a : Int)) rfl ?_; refine lxT (.tmp 59) (.tmp 60) (.slice (some ⟨g, 0, none⟩) n c) (.int .i64 (a : Int)) (.pointer (some ⟨g, a, none⟩)) (fun wx ρ hwx h0 h1 hc => idx_i rfl han ρ wx h0 h1) ?_; refine lxR (.tmp 61) (.pointer (some ⟨g, a, none⟩)) (iV y) (fun wx ρ hwx h0 hc => load_i rfl ρ (CY.out wx hwx) h0) ?_
            refine wpL_val (.int .i64 z) [iV x, iV y] (by kernel_rfl) (by kernel_rfl) rfl (by kernel_rfl) (by kernel_rfl) (by kernel_rfl) (by kernel_rfl) ENT.out (fun wx hwx => ASK.out wx hwx) ?_
            refine lxR (.tmp 63) (.int .i64 z) (.bool true) (fun wx ρ hwx h0 hc => lss_i rfl HT.out ρ wx h0 (hc _)) ?_; refine lxR (.tmp 64) (.bool true) (.bool false) (fun wx ρ hwx h0 hc => not_b rfl rfl ρ wx h0) ?_; refine lxB (.tmp 53) (.tmp 65) (.bool true) (.bool false) (.bool false) ?_
            refine wpL_end (by kernel_rfl) (fun w1 hw1 => ?_)
            simp only [FinL, setL, List.set_cons_zero, List.set_cons_succ]
            have H1 := Lib.hid (HK.out.later hw1)
            clear ASK CX CY HT hgd
            have hgI : ¬ (jd : Int) < (i : Int) := by omega
            have hin : i < n := by omega
            obtain ⟨k9, hk9⟩ : ∃ k, jd = k + 1 := ⟨jd - 1, by omega⟩
            obtain ⟨L, hL⟩ : ∃ L, L = Sort.partLoop (ltc cf) a (i + 1) k9 (Sort.swp dk i jd) := ⟨_, rfl⟩
            have HRL : Hid (R = (L.1, false, Sort.swp L.2 L.1 a)) := by show _ = _; rw [HR2.out (by rw [HEI.out, HEJ.out]; omega), HEI.out, HEJ.out, hL, show jd - 1 = k9 by omega]
            have hk9I : (jd : Int) - 1 = (k9 : Int) := by omega
            have hik9 : i + 1 ≤ k9 + 1 := by omega
            have hk9n : k9 + 1 ≤ n := by omega
            have hai1 : a + 1 ≤ i + 1 := by omega
            have HL := Lib.hid hL.symm
            clear HEI HEJ HR1 HR2 hL hk9
            obtain ⟨xi, hxi⟩ : ∃ x, x = dk[i]! := ⟨_, rfl⟩
            obtain ⟨xj, hxj⟩ : ∃ x, x = dk[jd]! := ⟨_, rfl⟩
            have H2 := Lib.hid (H1.out.swap hin hjn).drew
            have k1 := H1.out.cell hin
            have k2 := H1.out.cell hjn
            have f1 := H1.out.froz hin
            have f2 := H1.out.froz hjn
            obtain ⟨u, k3⟩ := H1.out.swap2 hin hjn
            rw [← hxi, ← hxj] at H2
            rw [← hxi] at k1
            rw [← hxj] at k2 k3
            clear hxi hxj
            go_wp2_with (fail)
            go_region
            clear k1 k2 k3 f1 f2
            obtain ⟨dj, hdj⟩ : ∃ x, x = Sort.swp dk i jd := ⟨_, rfl⟩
            rw [← hdj] at HL H2
            clear hdj
            go_wp2
            go_loopw [12, 13] (fun v12 v13 wr => ∃ (i j : Nat) (dk : Array Nat), v12 = .int .i64 (i : Int) ∧ v13 = .int .i64 (j : Int) ∧ a + 1 ≤ i ∧ i ≤ j + 1 ∧ j + 1 ≤ n ∧ Sd Ok B w0 Ts g n c Rs wr dk ∧ Sort.partLoop (ltc cf) a i j dk = L) (fun v12 v13 _ => (intOf v13 + 1 - intOf v12).toNat)
            case atStart => exact ⟨i + 1, k9, dj, by go_num, (by first | rfl | go_num), hai1, hik9, hk9n, H2.out, HL.out⟩
            case round =>
              clear hai hjb hi0 hai1 hik9 hk9n hk9I
              obtain ⟨i0, j, dk, rfl, rfl, hai, hij, hjb, hs, heq⟩ := hrel
              have HK := Lib.hid hs
              have HE := Lib.hid heq
              clear hs heq H2 HL
              obtain ⟨I, hI⟩ : ∃ I, I = Sort.scanUp (fun x => ltc cf x dk[a]!) dk j i0 := ⟨_, rfl⟩
              obtain ⟨J, hJ⟩ : ∃ J, J = Sort.scanDown (fun x => !ltc cf x dk[a]!) dk I j := ⟨_, rfl⟩
              have HQ : Hid (L = if I > J then (J, dk) else if h : (J - 1) + 1 - (I + 1) < j + 1 - i0 then Sort.partLoop (ltc cf) a (I + 1) (J - 1) (Sort.swp dk I J) else (J, dk)) := by
                show _ = _
                rw [← HE.out, Sort.partLoop]
                rw [hJ, hI]
              have HR1 : Hid (J < I → L = (J, dk)) := fun h => by rw [HQ.out, if_pos h]
              have HR2 : Hid (I ≤ J → i0 ≤ I → J ≤ j → L = Sort.partLoop (ltc cf) a (I + 1) (J - 1) (Sort.swp dk I J)) := fun h1 h2 h3 => by
                rw [HQ.out, if_neg (by omega), dif_pos (by omega)]
              have HI := Lib.hid hI.symm
              have HJ := Lib.hid hJ.symm
              clear hI hJ HQ HE
              go_wp2
              go_loopw [12] (fun vi ws => ∃ (i : Nat), vi = .int .i64 (i : Int) ∧ i0 ≤ i ∧ i ≤ j + 1 ∧ Sd Ok B w0 Ts g n c Rs ws dk ∧ Sort.scanUp (fun x => ltc cf x dk[a]!) dk j i = I) (fun vi _ => j + 2 - (intOf vi).toNat)
              case atStart => exact ⟨i0, (by first | rfl | go_num), Nat.le_refl _, hij, HK.out, HI.out⟩
              case round =>
                clear hij
                obtain ⟨i, rfl, hi0, hij, hs, heq⟩ := hrel
                have HK := Lib.hid hs
                have HE := Lib.hid heq
                clear hs heq HI
                by_cases hle : i ≤ j
                · have hin : i < n := by omega
                  have hgd : decide ((i : Int) ≤ (j : Int)) = true := decide_eq_true (by omega)
                  obtain ⟨x, hx⟩ : ∃ x, x = dk[i]! := ⟨_, rfl⟩
                  obtain ⟨y, hy⟩ : ∃ y, y = dk[a]! := ⟨_, rfl⟩
                  obtain ⟨z, hz⟩ : ∃ z, z = cf x y := ⟨_, rfl⟩
                  have ASK := Lib.hid (ask_at K HK.out hin han)
                  have CX := Lib.hid (cell_at HK.out hin)
                  have CY := Lib.hid (cell_at HK.out han)
                  rw [← hx, ← hy, ← hz] at ASK
                  rw [← hx] at CX
                  rw [← hy] at CY
                  have HIN : Hid (I = if ltc cf x y = true then Sort.scanUp (fun x => ltc cf x dk[a]!) dk j (i + 1) else i) := by
                    show _ = _
                    rw [← HE.out, Sort.scanUp]
                    simp only [← hx, ← hy]
                    by_cases h : ltc cf x y = true
                    · simp [hle, h]
                    · simp [hle, h]
                  clear HE
                  by_cases hlt : ltc cf x y = true
                  · have HT := Lib.hid (ltc_t hlt hz)
                    have HE2 : Hid (Sort.scanUp (fun x => ltc cf x dk[a]!) dk j (i + 1) = I) := by show _ = _; rw [HIN.out, if_pos hlt]
                    clear HIN hlt hz hx hy
                    go_wp2_with (fail)
                    refine lxX ?_; refine lxM (.int .i64 (i : Int)) rfl ?_; refine lxM (.int .i64 (j : Int)) rfl ?_; refine lxT (.tmp 105) (.tmp 106) (.int .i64 (i : Int)) (.int .i64 (j : Int)) (.bool true) (fun wx ρ hwx h0 h1 hc => leq_i rfl hgd ρ wx h0 h1) ?_; refine lxM (.bool true) rfl ?_; refine lxM (fvOf f bs cb) rfl ?_; refine lxM (.slice (some ⟨g, 0, none⟩) n c) rfl ?_; refine lxM (.int .i64 (i : Int)) rfl ?_; refine lxT (.tmp 110) (.tmp 111) (.slice (some ⟨g, 0, none⟩) n c) (.int .i64 (i : Int)) (.pointer (some ⟨g, i, none⟩)) (fun wx ρ hwx h0 h1 hc => idx_i rfl hin ρ wx h0 h1) ?_; refine lxR (.tmp 112) (.pointer (some ⟨g, i, none⟩)) (iV x) (fun wx ρ hwx h0 hc => load_i rfl ρ (CX.out wx hwx) h0) ?_; refine lxM (.slice (some ⟨g, 0, none⟩) n c) rfl ?_; refine lxM (.int .i64 (a : Int)) rfl ?_; refine lxT (.tmp 114) (.tmp 115) (.slice (some ⟨g, 0, none⟩) n c) (.int .i64 (a : Int)) (.pointer (some ⟨g, a, none⟩)) (fun wx ρ hwx h0 h1 hc => idx_i rfl han ρ wx h0 h1) ?_; refine lxR (.tmp 116) (.pointer (some ⟨g, a, none⟩)) (iV y) (fun wx ρ hwx h0 hc => load_i rfl ρ (CY.out wx hwx) h0) ?_
                    refine wpL_val (.int .i64 z) [iV x, iV y] (by kernel_rfl) (by kernel_rfl) rfl (by kernel_rfl) (by kernel_rfl) (by kernel_rfl) (by kernel_rfl) ENT.out (fun wx hwx => ASK.out wx hwx) ?_
                    refine lxR (.tmp 118) (.int .i64 z) (.bool true) (fun wx ρ hwx h0 hc => lss_i rfl HT.out ρ wx h0 (hc _)) ?_; refine lxB (.tmp 108) (.tmp 119) (.bool true) (.bool true) (.bool true) ?_
                    refine wpL_end (by kernel_rfl) (fun w1 hw1 => ?_)
                    simp only [FinL, setL, List.set_cons_zero, List.set_cons_succ]
                    have H1 := Lib.hid (HK.out.later hw1)
                    clear ASK CX CY
                    go_wp2
                    go_roundw
                    case rel => exact ⟨i + 1, by go_num, by omega, by omega, H1.out, HE2.out⟩
                    case measure => simp [intOf]; omega
                  · have hlf : ltc cf x y = false := by simpa using hlt
                    have HT := Lib.hid (ltc_t hlf hz)
                    have HEI : Hid (I = i) := by show _ = _; rw [HIN.out, if_neg hlt]
                    have HA : Hid (i ≤ j → ltc cf dk[i]! dk[a]! = false) := by intro _; rw [← hx, ← hy]; exact hlf
                    clear HIN hlt hlf hz hx hy hle
                    go_wp2_with (fail)
                    refine lxX ?_; refine lxM (.int .i64 (i : Int)) rfl ?_; refine lxM (.int .i64 (j : Int)) rfl ?_; refine lxT (.tmp 105) (.tmp 106) (.int .i64 (i : Int)) (.int .i64 (j : Int)) (.bool true) (fun wx ρ hwx h0 h1 hc => leq_i rfl hgd ρ wx h0 h1) ?_; refine lxM (.bool true) rfl ?_; refine lxM (fvOf f bs cb) rfl ?_; refine lxM (.slice (some ⟨g, 0, none⟩) n c) rfl ?_; refine lxM (.int .i64 (i : Int)) rfl ?_; refine lxT (.tmp 110) (.tmp 111) (.slice (some ⟨g, 0, none⟩) n c) (.int .i64 (i : Int)) (.pointer (some ⟨g, i, none⟩)) (fun wx ρ hwx h0 h1 hc => idx_i rfl hin ρ wx h0 h1) ?_; refine lxR (.tmp 112) (.pointer (some ⟨g, i, none⟩)) (iV x) (fun wx ρ hwx h0 hc => load_i rfl ρ (CX.out wx hwx) h0) ?_; refine lxM (.slice (some ⟨g, 0, none⟩) n c) rfl ?_; refine lxM (.int .i64 (a : Int)) rfl ?_; refine lxT (.tmp 114) (.tmp 115) (.slice (some ⟨g, 0, none⟩) n c) (.int .i64 (a : Int)) (.pointer (some ⟨g, a, none⟩)) (fun wx ρ hwx h0 h1 hc => idx_i rfl han ρ wx h0 h1) ?_; refine lxR (.tmp 116) (.pointer (some ⟨g, a, none⟩)) (iV y) (fun wx ρ hwx h0 hc => load_i rfl ρ (CY.out wx hwx) h0) ?_
                    refine wpL_val (.int .i64 z) [iV x, iV y] (by kernel_rfl) (by kernel_rfl) rfl (by kernel_rfl) (by kernel_rfl) (by kernel_rfl) (by kernel_rfl) ENT.out (fun wx hwx => ASK.out wx hwx) ?_
                    refine lxR (.tmp 118) (.int .i64 z) (.bool false) (fun wx ρ hwx h0 hc => lss_i rfl HT.out ρ wx h0 (hc _)) ?_; refine lxB (.tmp 108) (.tmp 119) (.bool true) (.bool false) (.bool false) ?_
                    refine wpL_end (by kernel_rfl) (fun w1 hw1 => ?_)
                    simp only [FinL, setL, List.set_cons_zero, List.set_cons_succ]
                    have H1 := Lib.hid (HK.out.later hw1)
                    clear ASK CX CY HT
                    have HJ0 : Hid (Sort.scanDown (fun x => !ltc cf x dk[a]!) dk i j = J) := by have e := HJ.out; rw [HEI.out] at e; exact e
                    have hi1 : 1 ≤ i := by omega
                    clear HJ
                    go_wp2
                    go_loopw [13] (fun vj ws => ∃ (j1 : Nat), vj = .int .i64 (j1 : Int) ∧ j1 ≤ j ∧ i ≤ j1 + 1 ∧ Sd Ok B w0 Ts g n c Rs ws dk ∧ Sort.scanDown (fun x => !ltc cf x dk[a]!) dk i j1 = J) (fun vj _ => (intOf vj).toNat)
                    case atStart => exact ⟨j, (by first | rfl | go_num), Nat.le_refl _, hij, H1.out, HJ0.out⟩
                    case round =>
                      obtain ⟨jd, rfl, hjj, hij1, hs, heq⟩ := hrel
                      have HK := Lib.hid hs
                      have HE := Lib.hid heq
                      clear hs heq HJ0 hij H1
                      by_cases hle2 : i ≤ jd
                      · have hjn : jd < n := by omega
                        have hgd : decide ((i : Int) ≤ (jd : Int)) = true := decide_eq_true (by omega)
                        obtain ⟨k, hjk⟩ : ∃ k, jd = k + 1 := ⟨jd - 1, by omega⟩
                        obtain ⟨x, hx⟩ : ∃ x, x = dk[jd]! := ⟨_, rfl⟩
                        obtain ⟨y, hy⟩ : ∃ y, y = dk[a]! := ⟨_, rfl⟩
                        obtain ⟨z, hz⟩ : ∃ z, z = cf x y := ⟨_, rfl⟩
                        have ASK := Lib.hid (ask_at K HK.out hjn han)
                        have CX := Lib.hid (cell_at HK.out hjn)
                        have CY := Lib.hid (cell_at HK.out han)
                        rw [← hx, ← hy, ← hz] at ASK
                        rw [← hx] at CX
                        rw [← hy] at CY
                        have HIN : Hid (J = if ltc cf x y = false then Sort.scanDown (fun x => !ltc cf x dk[a]!) dk i k else jd) := by
                          show _ = _
                          rw [← HE.out, hjk, Sort.scanDown, ← hjk]
                          simp only [← hx, ← hy]
                          by_cases h : ltc cf x y = true
                          · simp [hle2, h]
                          · simp [hle2, h]
                        have HJK := Lib.hid hjk
                        clear HE hjk
                        by_cases hlt : ltc cf x y = true
                        · have HT := Lib.hid (ltc_t hlt hz)
                          have HEJ : Hid (J = jd) := by show _ = _; rw [HIN.out, if_neg (by simp [hlt])]
                          have hne : i < jd := by
                            rcases Nat.lt_or_eq_of_le hle2 with h | h
                            · exact h
                            · exfalso; have ha := HA.out (by omega); rw [h] at ha; rw [← hx, ← hy] at ha; rw [ha] at hlt; cases hlt
                          clear HIN hlt hz hx hy hle2
                          go_wp2_with (fail)
                          refine lxX ?_; refine lxM (.int .i64 (i : Int)) rfl ?_; refine lxM (.int .i64 (jd : Int)) rfl ?_; refine lxT (.tmp 123) (.tmp 124) (.int .i64 (i : Int)) (.int .i64 (jd : Int)) (.bool true) (fun wx ρ hwx h0 h1 hc => leq_i rfl hgd ρ wx h0 h1) ?_; refine lxM (.bool true) rfl ?_; refine lxM (fvOf f bs cb) rfl ?_; refine lxM (.slice (some ⟨g, 0, none⟩) n c) rfl ?_; refine lxM (.int .i64 (jd : Int)) rfl ?_; refine lxT (.tmp 128) (.tmp 129) (.slice (some ⟨g, 0, none⟩) n c) (.int .i64 (jd : Int)) (.pointer (some ⟨g, jd, none⟩)) (fun wx ρ hwx h0 h1 hc => idx_i rfl hjn ρ wx h0 h1) ?_; refine lxR (.tmp 130) (.pointer (some ⟨g, jd, none⟩)) (iV x) (fun wx ρ hwx h0 hc => load_i rfl ρ (CX.out wx hwx) h0) ?_; refine lxM (.slice (some ⟨g, 0, none⟩) n c) rfl ?_; refine lxM (.int .i64 (a : Int)) rfl ?_; refine lxT (.tmp 132) (.tmp 133) (.slice (some ⟨g, 0, none⟩) n c) (.int .i64 (a : Int)) (.pointer (some ⟨g, a, none⟩)) (fun wx ρ hwx h0 h1 hc => idx_i rfl han ρ wx h0 h1) ?_; refine lxR (.tmp 134) (.pointer (some ⟨g, a, none⟩)) (iV y) (fun wx ρ hwx h0 hc => load_i rfl ρ (CY.out wx hwx) h0) ?_
                          refine wpL_val (.int .i64 z) [iV x, iV y] (by kernel_rfl) (by kernel_rfl) rfl (by kernel_rfl) (by kernel_rfl) (by kernel_rfl) (by kernel_rfl) ENT.out (fun wx hwx => ASK.out wx hwx) ?_
                          refine lxR (.tmp 136) (.int .i64 z) (.bool true) (fun wx ρ hwx h0 hc => lss_i rfl HT.out ρ wx h0 (hc _)) ?_; refine lxR (.tmp 137) (.bool true) (.bool false) (fun wx ρ hwx h0 hc => not_b rfl rfl ρ wx h0) ?_; refine lxB (.tmp 126) (.tmp 138) (.bool true) (.bool false) (.bool false) ?_
                          refine wpL_end (by kernel_rfl) (fun w1 hw1 => ?_)
                          simp only [FinL, setL, List.set_cons_zero, List.set_cons_succ]
                          have H1 := Lib.hid (HK.out.later hw1)
                          clear ASK CX CY HT hgd
                          have hgI : ¬ (jd : Int) < (i : Int) := by omega
                          have hin : i < n := by omega
                          have HRR : Hid (Sort.partLoop (ltc cf) a (i + 1) (jd - 1) (Sort.swp dk i jd) = L) := by show _ = _; rw [HR2.out (by rw [HEI.out, HEJ.out]; omega) (by rw [HEI.out]; omega) (by rw [HEJ.out]; omega), HEI.out, HEJ.out]
                          clear HEI HEJ HR1 HR2
                          obtain ⟨xi, hxi⟩ : ∃ x, x = dk[i]! := ⟨_, rfl⟩
                          obtain ⟨xj, hxj⟩ : ∃ x, x = dk[jd]! := ⟨_, rfl⟩
                          have H2 := Lib.hid (H1.out.swap hin hjn).drew
                          have k1 := H1.out.cell hin
                          have k2 := H1.out.cell hjn
                          have f1 := H1.out.froz hin
                          have f2 := H1.out.froz hjn
                          obtain ⟨u, k3⟩ := H1.out.swap2 hin hjn
                          rw [← hxi, ← hxj] at H2
                          rw [← hxi] at k1
                          rw [← hxj] at k2 k3
                          clear hxi hxj
                          go_wp2_with (fail)
                          go_region
                          clear k1 k2 k3 f1 f2
                          obtain ⟨k9, hk9⟩ : ∃ k, jd = k + 1 := ⟨jd - 1, by omega⟩
                          have hk9I : (jd : Int) - 1 = (k9 : Int) := by omega
                          have HK9 := Lib.hid hk9
                          clear hk9
                          go_wp2
                          go_roundw
                          case rel => exact ⟨i + 1, k9, Sort.swp dk i jd, by go_num, (by first | rfl | go_num), by omega, by have := HK9.out; omega, by have := HK9.out; omega, H2.out, by have := HRR.out; rw [HK9.out] at this ⊢; exact this⟩
                          case measure => have := HK9.out; simp [intOf]; omega
                        · have hlf : ltc cf x y = false := by simpa using hlt
                          have HT := Lib.hid (ltc_t hlf hz)
                          have HE2 : Hid (Sort.scanDown (fun x => !ltc cf x dk[a]!) dk i k = J) := by show _ = _; rw [HIN.out, if_pos hlf]
                          clear HIN hlt hlf hz hx hy
                          go_wp2_with (fail)
                          refine lxX ?_; refine lxM (.int .i64 (i : Int)) rfl ?_; refine lxM (.int .i64 (jd : Int)) rfl ?_; refine lxT (.tmp 123) (.tmp 124) (.int .i64 (i : Int)) (.int .i64 (jd : Int)) (.bool true) (fun wx ρ hwx h0 h1 hc => leq_i rfl hgd ρ wx h0 h1) ?_; refine lxM (.bool true) rfl ?_; refine lxM (fvOf f bs cb) rfl ?_; refine lxM (.slice (some ⟨g, 0, none⟩) n c) rfl ?_; refine lxM (.int .i64 (jd : Int)) rfl ?_; refine lxT (.tmp 128) (.tmp 129) (.slice (some ⟨g, 0, none⟩) n c) (.int .i64 (jd : Int)) (.pointer (some ⟨g, jd, none⟩)) (fun wx ρ hwx h0 h1 hc => idx_i rfl hjn ρ wx h0 h1) ?_; refine lxR (.tmp 130) (.pointer (some ⟨g, jd, none⟩)) (iV x) (fun wx ρ hwx h0 hc => load_i rfl ρ (CX.out wx hwx) h0) ?_; refine lxM (.slice (some ⟨g, 0, none⟩) n c) rfl ?_; refine lxM (.int .i64 (a : Int)) rfl ?_; refine lxT (.tmp 132) (.tmp 133) (.slice (some ⟨g, 0, none⟩) n c) (.int .i64 (a : Int)) (.pointer (some ⟨g, a, none⟩)) (fun wx ρ hwx h0 h1 hc => idx_i rfl han ρ wx h0 h1) ?_; refine lxR (.tmp 134) (.pointer (some ⟨g, a, none⟩)) (iV y) (fun wx ρ hwx h0 hc => load_i rfl ρ (CY.out wx hwx) h0) ?_
                          refine wpL_val (.int .i64 z) [iV x, iV y] (by kernel_rfl) (by kernel_rfl) rfl (by kernel_rfl) (by kernel_rfl) (by kernel_rfl) (by kernel_rfl) ENT.out (fun wx hwx => ASK.out wx hwx) ?_
                          refine lxR (.tmp 136) (.int .i64 z) (.bool false) (fun wx ρ hwx h0 hc => lss_i rfl HT.out ρ wx h0 (hc _)) ?_; refine lxR (.tmp 137) (.bool false) (.bool true) (fun wx ρ hwx h0 hc => not_b rfl rfl ρ wx h0) ?_; refine lxB (.tmp 126) (.tmp 138) (.bool true) (.bool true) (.bool true) ?_
                          refine wpL_end (by kernel_rfl) (fun w1 hw1 => ?_)
                          simp only [FinL, setL, List.set_cons_zero, List.set_cons_succ]
                          have H1 := Lib.hid (HK.out.later hw1)
                          have hjkI : (jd : Int) - 1 = (k : Int) := by have := HJK.out; omega
                          clear ASK CX CY
                          go_wp2
                          go_roundw
                          case rel => exact ⟨k, (by first | rfl | go_num), by have := HJK.out; omega, by have := HJK.out; omega, H1.out, HE2.out⟩
                          case measure => have := HJK.out; simp [intOf]; omega
                      · have hgd : decide ((i : Int) ≤ (jd : Int)) = false := decide_eq_false (by omega)
                        have HEJ : Hid (J = jd) := by
                          show _ = _
                          rw [← HE.out]
                          cases jd with
                          | zero => rfl
                          | succ k => rw [Sort.scanDown, if_neg (by simp [hle2])]
                        have hgt : jd < i := by omega
                        clear HE hle2
                        go_wp2_with (fail)
                        refine lxX ?_; refine lxM (.int .i64 (i : Int)) rfl ?_; refine lxM (.int .i64 (jd : Int)) rfl ?_; refine lxT (.tmp 123) (.tmp 124) (.int .i64 (i : Int)) (.int .i64 (jd : Int)) (.bool false) (fun wx ρ hwx h0 h1 hc => leq_i rfl hgd ρ wx h0 h1) ?_; refine lxM (.bool false) rfl ?_; refine lxS ?_; refine lxS ?_; refine lxS ?_; refine lxS ?_; refine lxS ?_; refine lxS ?_; refine lxS ?_; refine lxS ?_; refine lxS ?_; refine lxS ?_; refine lxS ?_; refine lxS ?_; refine lxR (.tmp 126) (.bool false) (.bool false) (fun wx ρ hwx h0 hc => by simp [go_sem, h0, hc]) ?_
                        refine wpL_end (by kernel_rfl) (fun w1 hw1 => ?_)
                        simp only [FinL, setL, List.set_cons_zero, List.set_cons_succ]
                        have H1 := Lib.hid (HK.out.later hw1)
                        clear hgd
                        have hgI : (jd : Int) < (i : Int) := by omega
                        have hjn : jd < n := by omega
                        have HRR : Hid (R = (jd, false, Sort.swp dk jd a)) := by show _ = _; rw [HRL.out, HR1.out (by rw [HEI.out, HEJ.out]; exact hgt), HEJ.out]
                        clear HEI HEJ
                        obtain ⟨xi, hxi⟩ : ∃ x, x = dk[jd]! := ⟨_, rfl⟩
                        obtain ⟨xj, hxj⟩ : ∃ x, x = dk[a]! := ⟨_, rfl⟩
                        have H2 := Lib.hid (H1.out.swap hjn han).drew
                        have k1 := H1.out.cell hjn
                        have k2 := H1.out.cell han
                        have f1 := H1.out.froz hjn
                        have f2 := H1.out.froz han
                        obtain ⟨u, k3⟩ := H1.out.swap2 hjn han
                        rw [← hxi, ← hxj] at H2
                        rw [← hxi] at k1
                        rw [← hxj] at k2 k3
                        clear hxi hxj
                        go_wp2_with (fail)
                        go_region
                        go_wp2
                        go_ret2
                        rw [HRR.out]
                        exact ⟨rfl, H2.out⟩
                · have hgd : decide ((i : Int) ≤ (j : Int)) = false := decide_eq_false (by omega)
                  have HEI : Hid (I = i) := by show _ = _; rw [← HE.out, Sort.scanUp, if_neg (by simp [hle])]
                  have HA : Hid (i ≤ j → ltc cf dk[i]! dk[a]! = false) := fun h => absurd h hle
                  clear HE
                  go_wp2_with (fail)
                  refine lxX ?_; refine lxM (.int .i64 (i : Int)) rfl ?_; refine lxM (.int .i64 (j : Int)) rfl ?_; refine lxT (.tmp 105) (.tmp 106) (.int .i64 (i : Int)) (.int .i64 (j : Int)) (.bool false) (fun wx ρ hwx h0 h1 hc => leq_i rfl hgd ρ wx h0 h1) ?_; refine lxM (.bool false) rfl ?_; refine lxS ?_; refine lxS ?_; refine lxS ?_; refine lxS ?_; refine lxS ?_; refine lxS ?_; refine lxS ?_; refine lxS ?_; refine lxS ?_; refine lxS ?_; refine lxS ?_; refine lxR (.tmp 108) (.bool false) (.bool false) (fun wx ρ hwx h0 hc => by simp [go_sem, h0, hc]) ?_
                  refine wpL_end (by kernel_rfl) (fun w1 hw1 => ?_)
                  simp only [FinL, setL, List.set_cons_zero, List.set_cons_succ]
                  have H1 := Lib.hid (HK.out.later hw1)
                  clear hle
                  have HJ0 : Hid (Sort.scanDown (fun x => !ltc cf x dk[a]!) dk i j = J) := by have e := HJ.out; rw [HEI.out] at e; exact e
                  have hi1 : 1 ≤ i := by omega
                  clear HJ
                  go_wp2
                  go_loopw [13] (fun vj ws => ∃ (j1 : Nat), vj = .int .i64 (j1 : Int) ∧ j1 ≤ j ∧ i ≤ j1 + 1 ∧ Sd Ok B w0 Ts g n c Rs ws dk ∧ Sort.scanDown (fun x => !ltc cf x dk[a]!) dk i j1 = J) (fun vj _ => (intOf vj).toNat)
                  case atStart => exact ⟨j, (by first | rfl | go_num), Nat.le_refl _, hij, H1.out, HJ0.out⟩
                  case round =>
                    obtain ⟨jd, rfl, hjj, hij1, hs, heq⟩ := hrel
                    have HK := Lib.hid hs
                    have HE := Lib.hid heq
                    clear hs heq HJ0 hij H1
                    by_cases hle2 : i ≤ jd
                    · have hjn : jd < n := by omega
                      have hgd : decide ((i : Int) ≤ (jd : Int)) = true := decide_eq_true (by omega)
                      obtain ⟨k, hjk⟩ : ∃ k, jd = k + 1 := ⟨jd - 1, by omega⟩
                      obtain ⟨x, hx⟩ : ∃ x, x = dk[jd]! := ⟨_, rfl⟩
                      obtain ⟨y, hy⟩ : ∃ y, y = dk[a]! := ⟨_, rfl⟩
                      obtain ⟨z, hz⟩ : ∃ z, z = cf x y := ⟨_, rfl⟩
                      have ASK := Lib.hid (ask_at K HK.out hjn han)
                      have CX := Lib.hid (cell_at HK.out hjn)
                      have CY := Lib.hid (cell_at HK.out han)
                      rw [← hx, ← hy, ← hz] at ASK
                      rw [← hx] at CX
                      rw [← hy] at CY
                      have HIN : Hid (J = if ltc cf x y = false then Sort.scanDown (fun x => !ltc cf x dk[a]!) dk i k else jd) := by
                        show _ = _
                        rw [← HE.out, hjk, Sort.scanDown, ← hjk]
                        simp only [← hx, ← hy]
                        by_cases h : ltc cf x y = true
                        · simp [hle2, h]
                        · simp [hle2, h]
                      have HJK := Lib.hid hjk
                      clear HE hjk
                      by_cases hlt : ltc cf x y = true
                      · have HT := Lib.hid (ltc_t hlt hz)
                        have HEJ : Hid (J = jd) := by show _ = _; rw [HIN.out, if_neg (by simp [hlt])]
                        have hne : i < jd := by
                          rcases Nat.lt_or_eq_of_le hle2 with h | h
                          · exact h
                          · exfalso; have ha := HA.out (by omega); rw [h] at ha; rw [← hx, ← hy] at ha; rw [ha] at hlt; cases hlt
                        clear HIN hlt hz hx hy hle2
                        go_wp2_with (fail)
                        refine lxX ?_; refine lxM (.int .i64 (i : Int)) rfl ?_; refine lxM (.int .i64 (jd : Int)) rfl ?_; refine lxT (.tmp 123) (.tmp 124) (.int .i64 (i : Int)) (.int .i64 (jd : Int)) (.bool true) (fun wx ρ hwx h0 h1 hc => leq_i rfl hgd ρ wx h0 h1) ?_; refine lxM (.bool true) rfl ?_; refine lxM (fvOf f bs cb) rfl ?_; refine lxM (.slice (some ⟨g, 0, none⟩) n c) rfl ?_; refine lxM (.int .i64 (jd : Int)) rfl ?_; refine lxT (.tmp 128) (.tmp 129) (.slice (some ⟨g, 0, none⟩) n c) (.int .i64 (jd : Int)) (.pointer (some ⟨g, jd, none⟩)) (fun wx ρ hwx h0 h1 hc => idx_i rfl hjn ρ wx h0 h1) ?_; refine lxR (.tmp 130) (.pointer (some ⟨g, jd, none⟩)) (iV x) (fun wx ρ hwx h0 hc => load_i rfl ρ (CX.out wx hwx) h0) ?_; refine lxM (.slice (some ⟨g, 0, none⟩) n c) rfl ?_; refine lxM (.int .i64 (a : Int)) rfl ?_; refine lxT (.tmp 132) (.tmp 133) (.slice (some ⟨g, 0, none⟩) n c) (.int .i64 (a : Int)) (.pointer (some ⟨g, a, none⟩)) (fun wx ρ hwx h0 h1 hc => idx_i rfl han ρ wx h0 h1) ?_; refine lxR (.tmp 134) (.pointer (some ⟨g, a, none⟩)) (iV y) (fun wx ρ hwx h0 hc => load_i rfl ρ (CY.out wx hwx) h0) ?_
                        refine wpL_val (.int .i64 z) [iV x, iV y] (by kernel_rfl) (by kernel_rfl) rfl (by kernel_rfl) (by kernel_rfl) (by kernel_rfl) (by kernel_rfl) ENT.out (fun wx hwx => ASK.out wx hwx) ?_
                        refine lxR (.tmp 136) (.int .i64 z) (.bool true) (fun wx ρ hwx h0 hc => lss_i rfl HT.out ρ wx h0 (hc _)) ?_; refine lxR (.tmp 137) (.bool true) (.bool false) (fun wx ρ hwx h0 hc => not_b rfl rfl ρ wx h0) ?_; refine lxB (.tmp 126) (.tmp 138) (.bool true) (.bool false) (.bool false) ?_
                        refine wpL_end (by kernel_rfl) (fun w1 hw1 => ?_)
                        simp only [FinL, setL, List.set_cons_zero, List.set_cons_succ]
                        have H1 := Lib.hid (HK.out.later hw1)
                        clear ASK CX CY HT hgd
                        have hgI : ¬ (jd : Int) < (i : Int) := by omega
                        have hin : i < n := by omega
                        have HRR : Hid (Sort.partLoop (ltc cf) a (i + 1) (jd - 1) (Sort.swp dk i jd) = L) := by show _ = _; rw [HR2.out (by rw [HEI.out, HEJ.out]; omega) (by rw [HEI.out]; omega) (by rw [HEJ.out]; omega), HEI.out, HEJ.out]
                        clear HEI HEJ HR1 HR2
                        obtain ⟨xi, hxi⟩ : ∃ x, x = dk[i]! := ⟨_, rfl⟩
                        obtain ⟨xj, hxj⟩ : ∃ x, x = dk[jd]! := ⟨_, rfl⟩
                        have H2 := Lib.hid (H1.out.swap hin hjn).drew
                        have k1 := H1.out.cell hin
                        have k2 := H1.out.cell hjn
                        have f1 := H1.out.froz hin
                        have f2 := H1.out.froz hjn
                        obtain ⟨u, k3⟩ := H1.out.swap2 hin hjn
                        rw [← hxi, ← hxj] at H2
                        rw [← hxi] at k1
                        rw [← hxj] at k2 k3
                        clear hxi hxj
                        go_wp2_with (fail)
                        go_region
                        clear k1 k2 k3 f1 f2
                        obtain ⟨k9, hk9⟩ : ∃ k, jd = k + 1 := ⟨jd - 1, by omega⟩
                        have hk9I : (jd : Int) - 1 = (k9 : Int) := by omega
                        have HK9 := Lib.hid hk9
                        clear hk9
                        go_wp2
                        go_roundw
                        case rel => exact ⟨i + 1, k9, Sort.swp dk i jd, by go_num, (by first | rfl | go_num), by omega, by have := HK9.out; omega, by have := HK9.out; omega, H2.out, by have := HRR.out; rw [HK9.out] at this ⊢; exact this⟩
                        case measure => have := HK9.out; simp [intOf]; omega
                      · have hlf : ltc cf x y = false := by simpa using hlt
                        have HT := Lib.hid (ltc_t hlf hz)
                        have HE2 : Hid (Sort.scanDown (fun x => !ltc cf x dk[a]!) dk i k = J) := by show _ = _; rw [HIN.out, if_pos hlf]
                        clear HIN hlt hlf hz hx hy
                        go_wp2_with (fail)
                        refine lxX ?_; refine lxM (.int .i64 (i : Int)) rfl ?_; refine lxM (.int .i64 (jd : Int)) rfl ?_; refine lxT (.tmp 123) (.tmp 124) (.int .i64 (i : Int)) (.int .i64 (jd : Int)) (.bool true) (fun wx ρ hwx h0 h1 hc => leq_i rfl hgd ρ wx h0 h1) ?_; refine lxM (.bool true) rfl ?_; refine lxM (fvOf f bs cb) rfl ?_; refine lxM (.slice (some ⟨g, 0, none⟩) n c) rfl ?_; refine lxM (.int .i64 (jd : Int)) rfl ?_; refine lxT (.tmp 128) (.tmp 129) (.slice (some ⟨g, 0, none⟩) n c) (.int .i64 (jd : Int)) (.pointer (some ⟨g, jd, none⟩)) (fun wx ρ hwx h0 h1 hc => idx_i rfl hjn ρ wx h0 h1) ?_; refine lxR (.tmp 130) (.pointer (some ⟨g, jd, none⟩)) (iV x) (fun wx ρ hwx h0 hc => load_i rfl ρ (CX.out wx hwx) h0) ?_; refine lxM (.slice (some ⟨g, 0, none⟩) n c) rfl ?_; refine lxM (.int .i64 (a : Int)) rfl ?_; refine lxT (.tmp 132) (.tmp 133) (.slice (some ⟨g, 0, none⟩) n c) (.int .i64 (a : Int)) (.pointer (some ⟨g, a, none⟩)) (fun wx ρ hwx h0 h1 hc => idx_i rfl han ρ wx h0 h1) ?_; refine lxR (.tmp 134) (.pointer (some ⟨g, a, none⟩)) (iV y) (fun wx ρ hwx h0 hc => load_i rfl ρ (CY.out wx hwx) h0) ?_
                        refine wpL_val (.int .i64 z) [iV x, iV y] (by kernel_rfl) (by kernel_rfl) rfl (by kernel_rfl) (by kernel_rfl) (by kernel_rfl) (by kernel_rfl) ENT.out (fun wx hwx => ASK.out wx hwx) ?_
                        refine lxR (.tmp 136) (.int .i64 z) (.bool false) (fun wx ρ hwx h0 hc => lss_i rfl HT.out ρ wx h0 (hc _)) ?_; refine lxR (.tmp 137) (.bool false) (.bool true) (fun wx ρ hwx h0 hc => not_b rfl rfl ρ wx h0) ?_; refine lxB (.tmp 126) (.tmp 138) (.bool true) (.bool true) (.bool true) ?_
                        refine wpL_end (by kernel_rfl) (fun w1 hw1 => ?_)
                        simp only [FinL, setL, List.set_cons_zero, List.set_cons_succ]
                        have H1 := Lib.hid (HK.out.later hw1)
                        have hjkI : (jd : Int) - 1 = (k : Int) := by have := HJK.out; omega
                        clear ASK CX CY
                        go_wp2
                        go_roundw
                        case rel => exact ⟨k, (by first | rfl | go_num), by have := HJK.out; omega, by have := HJK.out; omega, H1.out, HE2.out⟩
                        case measure => have := HJK.out; simp [intOf]; omega
                    · have hgd : decide ((i : Int) ≤ (jd : Int)) = false := decide_eq_false (by omega)
                      have HEJ : Hid (J = jd) := by
                        show _ = _
                        rw [← HE.out]
                        cases jd with
                        | zero => rfl
                        | succ k => rw [Sort.scanDown, if_neg (by simp [hle2])]
                      have hgt : jd < i := by omega
                      clear HE hle2
                      go_wp2_with (fail)
                      refine lxX ?_; refine lxM (.int .i64 (i : Int)) rfl ?_; refine lxM (.int .i64 (jd : Int)) rfl ?_; refine lxT (.tmp 123) (.tmp 124) (.int .i64 (i : Int)) (.int .i64 (jd : Int)) (.bool false) (fun wx ρ hwx h0 h1 hc => leq_i rfl hgd ρ wx h0 h1) ?_; refine lxM (.bool false) rfl ?_; refine lxS ?_; refine lxS ?_; refine lxS ?_; refine lxS ?_; refine lxS ?_; refine lxS ?_; refine lxS ?_; refine lxS ?_; refine lxS ?_; refine lxS ?_; refine lxS ?_; refine lxS ?_; refine lxR (.tmp 126) (.bool false) (.bool false) (fun wx ρ hwx h0 hc => by simp [go_sem, h0, hc]) ?_
                      refine wpL_end (by kernel_rfl) (fun w1 hw1 => ?_)
                      simp only [FinL, setL, List.set_cons_zero, List.set_cons_succ]
                      have H1 := Lib.hid (HK.out.later hw1)
                      clear hgd
                      have hgI : (jd : Int) < (i : Int) := by omega
                      have hjn : jd < n := by omega
                      have HRR : Hid (R = (jd, false, Sort.swp dk jd a)) := by show _ = _; rw [HRL.out, HR1.out (by rw [HEI.out, HEJ.out]; exact hgt), HEJ.out]
                      clear HEI HEJ
                      obtain ⟨xi, hxi⟩ : ∃ x, x = dk[jd]! := ⟨_, rfl⟩
                      obtain ⟨xj, hxj⟩ : ∃ x, x = dk[a]! := ⟨_, rfl⟩
                      have H2 := Lib.hid (H1.out.swap hjn han).drew
                      have k1 := H1.out.cell hjn
                      have k2 := H1.out.cell han
                      have f1 := H1.out.froz hjn
                      have f2 := H1.out.froz han
                      obtain ⟨u, k3⟩ := H1.out.swap2 hjn han
                      rw [← hxi, ← hxj] at H2
                      rw [← hxi] at k1
                      rw [← hxj] at k2 k3
                      clear hxi hxj
                      go_wp2_with (fail)
                      go_region
                      go_wp2
                      go_ret2
                      rw [HRR.out]
                      exact ⟨rfl, H2.out⟩
          · have hlf : ltc cf x y = false := by simpa using hlt
            have HT := Lib.hid (ltc_t hlf hz)
            have HE2 : Hid (Sort.scanDown (fun x => !ltc cf x dk[a]!) dk i k = J) := by show _ = _; rw [HIN.out, if_pos hlf]
            clear HIN hlt hlf hz hx hy
            go_wp2_with (fail)
            refine lxX ?_; refine lxM (.int .i64 (i : Int)) rfl ?_; refine lxM (.int .i64 (jd : Int)) rfl ?_; refine lxT (.tmp 50) (.tmp 51) (.int .i64 (i : Int)) (.int .i64 (jd : Int)) (.bool true) (fun wx ρ hwx h0 h1 hc => leq_i rfl hgd ρ wx h0 h1) ?_; refine lxM (.bool true) rfl ?_; refine lxM (fvOf f bs cb) rfl ?_; refine lxM (.slice (some ⟨g, 0, none⟩) n c) rfl ?_; refine lxM (.int .i64 (jd : Int)) rfl ?_; refine lxT (.tmp 55) (.tmp 56) (.slice (some ⟨g, 0, none⟩) n c) (.int .i64 (jd : Int)) (.pointer (some ⟨g, jd, none⟩)) (fun wx ρ hwx h0 h1 hc => idx_i rfl hjn ρ wx h0 h1) ?_; refine lxR (.tmp 57) (.pointer (some ⟨g, jd, none⟩)) (iV x) (fun wx ρ hwx h0 hc => load_i rfl ρ (CX.out wx hwx) h0) ?_; refine lxM (.slice (some ⟨g, 0, none⟩) n c) rfl ?_; refine lxM (.int .i64 (a : Int)) rfl ?_; refine lxT (.tmp 59) (.tmp 60) (.slice (some ⟨g, 0, none⟩) n c) (.int .i64 (a : Int)) (.pointer (some ⟨g, a, none⟩)) (fun wx ρ hwx h0 h1 hc => idx_i rfl han ρ wx h0 h1) ?_; refine lxR (.tmp 61) (.pointer (some ⟨g, a, none⟩)) (iV y) (fun wx ρ hwx h0 hc => load_i rfl ρ (CY.out wx hwx) h0) ?_
            refine wpL_val (.int .i64 z) [iV x, iV y] (by kernel_rfl) (by kernel_rfl) rfl (by kernel_rfl) (by kernel_rfl) (by kernel_rfl) (by kernel_rfl) ENT.out (fun wx hwx => ASK.out wx hwx) ?_
            refine lxR (.tmp 63) (.int .i64 z) (.bool false) (fun wx ρ hwx h0 hc => lss_i rfl HT.out ρ wx h0 (hc _)) ?_; refine lxR (.tmp 64) (.bool false) (.bool true) (fun wx ρ hwx h0 hc => not_b rfl rfl ρ wx h0) ?_; refine lxB (.tmp 53) (.tmp 65) (.bool true) (.bool true) (.bool true) ?_
            refine wpL_end (by kernel_rfl) (fun w1 hw1 => ?_)
            simp only [FinL, setL, List.set_cons_zero, List.set_cons_succ]
            have H1 := Lib.hid (HK.out.later hw1)
            have hjkI : (jd : Int) - 1 = (k : Int) := by have := HJK.out; omega
            clear ASK CX CY
            go_wp2
            go_roundw
            case rel => exact ⟨k, (by first | rfl | go_num), by have := HJK.out; omega, by have := HJK.out; omega, H1.out, HE2.out⟩
            case measure => have := HJK.out; simp [intOf]; omega
        · have hgd : decide ((i : Int) ≤ (jd : Int)) = false := decide_eq_false (by omega)
          have HEJ : Hid (J = jd) := by
            show _ = _
            rw [← HE.out]
            cases jd with
            | zero => rfl
            | succ k => rw [Sort.scanDown, if_neg (by simp [hle2])]
          have hgt : jd < i := by omega
          clear HE hle2
          go_wp2_with (fail)
          refine lxX ?_; refine lxM (.int .i64 (i : Int)) rfl ?_; refine lxM (.int .i64 (jd : Int)) rfl ?_; refine lxT (.tmp 50) (.tmp 51) (.int .i64 (i : Int)) (.int .i64 (jd : Int)) (.bool false) (fun wx ρ hwx h0 h1 hc => leq_i rfl hgd ρ wx h0 h1) ?_; refine lxM (.bool false) rfl ?_; refine lxS ?_; refine lxS ?_; refine lxS ?_; refine lxS ?_; refine lxS ?_; refine lxS ?_; refine lxS ?_; refine lxS ?_; refine lxS ?_; refine lxS ?_; refine lxS ?_; refine lxS ?_; refine lxR (.tmp 53) (.bool false) (.bool false) (fun wx ρ hwx h0 hc => by simp [go_sem, h0, hc]) ?_
          refine wpL_end (by kernel_rfl) (fun w1 hw1 => ?_)
          simp only [FinL, setL, List.set_cons_zero, List.set_cons_succ]
          have H1 := Lib.hid (HK.out.later hw1)
          clear hgd
          have hgI : (jd : Int) < (i : Int) := by omega
          have hjn : jd < n := by omega
          have HRR : Hid (R = (jd, true, Sort.swp dk jd a)) := by show _ = _; rw [HR1.out (by rw [HEI.out, HEJ.out]; exact hgt), HEJ.out]
          clear HEI HEJ
          obtain ⟨xi, hxi⟩ : ∃ x, x = dk[jd]! := ⟨_, rfl⟩
          obtain ⟨xj, hxj⟩ : ∃ x, x = dk[a]! := ⟨_, rfl⟩
          have H2 := Lib.hid (H1.out.swap hjn han).drew
          have k1 := H1.out.cell hjn
          have k2 := H1.out.cell han
          have f1 := H1.out.froz hjn
          have f2 := H1.out.froz han
          obtain ⟨u, k3⟩ := H1.out.swap2 hjn han
          rw [← hxi, ← hxj] at H2
          rw [← hxi] at k1
          rw [← hxj] at k2 k3
          clear hxi hxj
          go_wp2_with (fail)
          go_region
          go_wp2
          go_ret2
          rw [HRR.out]
          exact ⟨rfl, H2.out⟩
end
end Srt
end Go.Proofs.YtmdphcebmgcdbaaGreat
