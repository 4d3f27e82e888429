/- Merged: SrtF SrtG -/
import Derived.Test.YtmdphcebmgcdbaaGreatQ6
set_option linter.unusedVariables false
section
namespace Go.Proofs.YtmdphcebmgcdbaaGreat
open Go.RowKit Go.Own
namespace Srt
section
variable {f : FuncId} {bs cb : Array Value} {cf : Nat → Nat → Int} {Ok : Nat → Prop} {B : Nat} {w0 w : World} {Ts Rs : List Asn} {g n c : Nat} {d : Array Nat}
theorem Sd.eqd {e : Array Nat} (S : Sd Ok B w0 Ts g n c Rs w d) (h : e = d) : Sd Ok B w0 Ts g n c Rs w e := by rw [h]; exact S
set_option maxRecDepth 6000 in
set_option maxHeartbeats 16000000 in
theorem partialIns_any (K : Cmp f bs cb cf Ok B w0 Ts) (S : Sd Ok B w0 Ts g n c Rs w d) (a b : Nat) (hab : a + 12 < b) (hb : b ≤ n) (hn : n ≤ 100000) :
    Calls Tryz.prog 82 #[.slice (some ⟨g, 0, none⟩) n c, .int .i64 (a : Int), .int .i64 (b : Int), fvOf f bs cb] w fun e w' => e = .returned (.bool (Sort.partialInsertionSort (ltc cf) d a b).2) ∧ Sd Ok B w0 Ts g n c Rs w' (Sort.partialInsertionSort (ltc cf) d a b).1 := by
  have HS := Lib.hid S
  have ENT := Lib.hid K.ent
  obtain ⟨R, hR⟩ : ∃ R, R = Sort.partialInsertionSort (ltc cf) d a b := ⟨_, rfl⟩
  rw [← hR]
  have HR0 : Hid (Sort.partialIns (ltc cf) a b 5 (a + 1) d = R) := hR.symm
  clear S hR
  obtain ⟨ba, hba⟩ : ∃ x, x = b - a := ⟨_, rfl⟩
  have hbaI : (b : Int) - (a : Int) = (ba : Int) := by omega
  have hbab : ba ≤ 100000 := by omega
  have HBA := Lib.hid hba
  clear hba
  go_enter Tryz.func82, Tryz.ntmps82
  go_wp2
  go_loopw [9, 10] (fun v9 v10 wr => ∃ (s i jj : Nat) (dk : Array Nat), jj + s = 5 ∧ v10 = .int .i64 (jj : Int) ∧ v9 = .int .i64 (i : Int) ∧ a + 1 ≤ i ∧ i ≤ b ∧ Sd Ok B w0 Ts g n c Rs wr dk ∧ Sort.partialIns (ltc cf) a b s i dk = R) (fun _ v10 _ => 6 - (intOf v10).toNat)
  case atStart => exact ⟨5, a + 1, 0, d, rfl, rfl, by go_num, Nat.le_refl _, by omega, HS.out, HR0.out⟩
  case round =>
    obtain ⟨s, i, jj, dk, hjs, rfl, rfl, hai, hib, hs, heq⟩ := hrel
    have HK := Lib.hid hs
    have HE := Lib.hid heq
    clear hs heq HS HR0
    cases s with
    | zero =>
      have hj5 : ¬ (jj : Int) < 5 := by omega
      have HE2 : Hid (R = (dk, false)) := HE.out.symm
      clear HE hjs
      go_wp2
      go_ret
      rw [HE2.out]
      exact ⟨rfl, HK.out⟩
    | succ s =>
      have hj5 : (jj : Int) < 5 := by omega
      have hjj : jj + 1 + s = 5 := by omega
      clear hjs
      obtain ⟨I2, hI2⟩ : ∃ I, I = Sort.scanSorted (ltc cf) dk b i := ⟨_, rfl⟩
      have HPS : Hid (R = if I2 = b then (dk, true) else if b - a < 50 then (dk, false) else Sort.partialIns (ltc cf) a b s I2 (if b - I2 ≥ 2 then Sort.shiftUp (ltc cf) b (I2 + 1) (if I2 - a ≥ 2 then Sort.shiftDown (ltc cf) (I2 - 1) (Sort.swp dk I2 (I2 - 1)) else Sort.swp dk I2 (I2 - 1)) else (if I2 - a ≥ 2 then Sort.shiftDown (ltc cf) (I2 - 1) (Sort.swp dk I2 (I2 - 1)) else Sort.swp dk I2 (I2 - 1)))) := by
        show _ = _
        rw [← HE.out, Sort.partialIns, ← hI2]
      have HI2 := Lib.hid hI2.symm
      clear HE hI2
      go_wp2
      go_loopw [9] (fun v9 ws => ∃ (i : Nat), v9 = .int .i64 (i : Int) ∧ a + 1 ≤ i ∧ i ≤ b ∧ Sd Ok B w0 Ts g n c Rs ws dk ∧ Sort.scanSorted (ltc cf) dk b i = I2) (fun v9 _ => b + 1 - (intOf v9).toNat)
      case atStart => exact ⟨i, rfl, hai, hib, HK.out, HI2.out⟩
      case round =>
        clear hai hib
        obtain ⟨i, rfl, hai, hib, hs, heq⟩ := hrel
        have HK := Lib.hid hs
        have HE := Lib.hid heq
        clear hs heq HI2
        by_cases hi : i < b
        · have hin : i < n := by omega
          have hgd : decide ((i : Int) < (b : Int)) = true := decide_eq_true (by omega)
          obtain ⟨k, hik⟩ : ∃ k, i = k + 1 := ⟨i - 1, by omega⟩
          have hkn : k < n := by omega
          have hi1 : i - 1 = k := by omega
          obtain ⟨x, hx⟩ : ∃ x, x = dk[i]! := ⟨_, rfl⟩
          obtain ⟨y, hy⟩ : ∃ y, y = dk[k]! := ⟨_, rfl⟩
          obtain ⟨z, hz⟩ : ∃ z, z = cf x y := ⟨_, rfl⟩
          have ASK := Lib.hid (ask_at K HK.out hin hkn)
          have CX := Lib.hid (cell_at HK.out hin)
          have CY := Lib.hid (cell_at HK.out hkn)
          rw [← hx, ← hy, ← hz] at ASK
          rw [← hx] at CX
          rw [← hy] at CY
          have HIN : Hid (I2 = if ltc cf x y = true then i else Sort.scanSorted (ltc cf) dk b (i + 1)) := by
            show _ = _
            rw [← HE.out, Sort.scanSorted, hi1, ← hx, ← hy]
            by_cases h : ltc cf x y = true
            · rw [if_pos h, if_neg (by simp [h])]
            · rw [if_neg h, if_pos (by simp [hi, h])]
          have HIK := Lib.hid hik
          clear HE hik hi1
          by_cases hlt : ltc cf x y = true
          · have HT := Lib.hid (ltc_t hlt hz)
            have HE2 : Hid (I2 = i) := by show _ = _; rw [HIN.out, if_pos hlt]
            clear HIN hlt hz hx hy
            go_wp2_with (fail)
            refine lxX ?_; refine lxM (.int .i64 (i : Int)) rfl ?_; refine lxM (.int .i64 (b : Int)) rfl ?_; refine lxT (.tmp 19) (.tmp 20) (.int .i64 (i : Int)) (.int .i64 (b : Int)) (.bool true) (fun wx ρ hwx h0 h1 hc => lss_i rfl hgd ρ wx h0 h1) ?_; refine lxM (.bool true) rfl ?_; refine lxM (fvOf f bs cb) rfl ?_; refine lxM (.slice (some ⟨g, 0, none⟩) n c) rfl ?_; refine lxM (.int .i64 (i : Int)) rfl ?_; refine lxT (.tmp 24) (.tmp 25) (.slice (some ⟨g, 0, none⟩) n c) (.int .i64 (i : Int)) (.pointer (some ⟨g, i, none⟩)) (fun wx ρ hwx h0 h1 hc => idx_i rfl hin ρ wx h0 h1) ?_; refine lxR (.tmp 26) (.pointer (some ⟨g, i, none⟩)) (iV x) (fun wx ρ hwx h0 hc => load_i rfl ρ (CX.out wx hwx) h0) ?_; refine lxM (.slice (some ⟨g, 0, none⟩) n c) rfl ?_; refine lxM (.int .i64 (i : Int)) rfl ?_; refine lxR (.tmp 29) (.int .i64 (i : Int)) (.int .i64 (k : Int)) (fun wx ρ hwx h0 hc => bin_sub rfl _ 1 HIK.out (by omega) ρ wx h0 (hc _)) ?_; refine lxT (.tmp 28) (.tmp 30) (.slice (some ⟨g, 0, none⟩) n c) (.int .i64 (k : Int)) (.pointer (some ⟨g, k, none⟩)) (fun wx ρ hwx h0 h1 hc => idx_i rfl hkn ρ wx h0 h1) ?_; refine lxR (.tmp 31) (.pointer (some ⟨g, k, none⟩)) (iV y) (fun wx ρ hwx h0 hc => load_i rfl ρ (CY.out wx hwx) h0) ?_
            refine wpL_val (.int .i64 z) [iV x, iV y] (by kernel_rfl) (by kernel_rfl) rfl (by kernel_rfl) (by kernel_rfl) (by kernel_rfl) (by kernel_rfl) ENT.out (fun wx hwx => ASK.out wx hwx) ?_
            refine lxR (.tmp 33) (.int .i64 z) (.bool true) (fun wx ρ hwx h0 hc => lss_i rfl HT.out ρ wx h0 (hc _)) ?_; refine lxR (.tmp 34) (.bool true) (.bool false) (fun wx ρ hwx h0 hc => not_b rfl rfl ρ wx h0) ?_; refine lxB (.tmp 22) (.tmp 35) (.bool true) (.bool false) (.bool false) ?_
            refine wpL_end (by kernel_rfl) (fun w1 hw1 => ?_)
            simp only [FinL, setL, List.set_cons_zero, List.set_cons_succ]
            have H1 := Lib.hid (HK.out.later hw1)
            clear ASK CX CY
            have hiI : ((i : Int) == (b : Int)) = false := by simp; omega
            by_cases h50 : ba < 50
            · have h50I : (ba : Int) < 50 := by omega
              have HE3 : Hid (R = (dk, false)) := by show _ = _; rw [HPS.out, HE2.out, if_neg (by omega), if_pos (by have := HBA.out; omega)]
              clear HPS
              go_wp2
              go_ret
              rw [HE3.out]
              exact ⟨rfl, H1.out⟩
            · have h50I : ¬ (ba : Int) < 50 := by omega
              have HPI : Hid (Sort.partialIns (ltc cf) a b s i (if b - i ≥ 2 then Sort.shiftUp (ltc cf) b (i + 1) (if i - a ≥ 2 then Sort.shiftDown (ltc cf) k (Sort.swp dk i k) else Sort.swp dk i k) else (if i - a ≥ 2 then Sort.shiftDown (ltc cf) k (Sort.swp dk i k) else Sort.swp dk i k)) = R) := by
                have e := HPS.out
                rw [HE2.out, if_neg (by omega), if_neg (by have := HBA.out; omega), show i - 1 = k by have := HIK.out; omega] at e
                exact e.symm
              clear HPS HE2
              obtain ⟨xi, hxi⟩ : ∃ x, x = dk[i]! := ⟨_, rfl⟩
              obtain ⟨xj, hxj⟩ : ∃ x, x = dk[k]! := ⟨_, rfl⟩
              have H2 := Lib.hid (H1.out.swap hin hkn).drew
              have k1 := H1.out.cell hin
              have k2 := H1.out.cell hkn
              have f1 := H1.out.froz hin
              have f2 := H1.out.froz hkn
              obtain ⟨u, k3⟩ := H1.out.swap2 hin hkn
              rw [← hxi, ← hxj] at H2
              rw [← hxi] at k1
              rw [← hxj] at k2 k3
              clear hxi hxj
              have hsub : IntKind.i64.wrap ((i : Int) - 1) = (k : Int) := by have := HIK.out; rw [IntKind.wrap_i64]; omega
              go_wp2_with (fail)
              go_region
              clear k1 k2 k3 f1 f2 hsub H1
              generalize (World.setCell (World.setCell w1 ⟨g, i, none⟩ (iV xj)) ⟨g, k, none⟩ (iV xi)).drew = w5 at H2 ⊢
              obtain ⟨ia, hia⟩ : ∃ x, x = i - a := ⟨_, rfl⟩
              have hiaI : (i : Int) - (a : Int) = (ia : Int) := by omega
              have hiab : ia ≤ 100000 := by omega
              obtain ⟨d1, hd1⟩ : ∃ d1, d1 = Sort.swp dk i k := ⟨_, rfl⟩
              rw [← hd1] at H2 HPI
              clear hd1
              by_cases hi2 : 2 ≤ ia
              · have hi2I : (2 : Int) ≤ (ia : Int) := by omega
                obtain ⟨X3, hX3⟩ : ∃ X, X = Sort.shiftDown (ltc cf) k d1 := ⟨_, rfl⟩
                have H17 : Hid (Sort.partialIns (ltc cf) a b s i (if b - i ≥ 2 then Sort.shiftUp (ltc cf) b (i + 1) X3 else X3) = R) := by have hc : i - a ≥ 2 := (by omega); have e := HPI.out; simp only [if_pos hc] at e; rw [← hX3] at e; exact e
                have HX3 := Lib.hid hX3.symm
                have hik : (i : Int) - 1 = (k : Int) := by have := HIK.out; omega
                clear HPI hX3 hia
                go_wp2
                go_loopw [11] (fun v11 ws => ∃ (j : Nat) (dk : Array Nat), v11 = .int .i64 (j : Int) ∧ j ≤ k ∧ Sd Ok B w0 Ts g n c Rs ws dk ∧ Sort.shiftDown (ltc cf) j dk = X3) (fun v11 _ => (intOf v11).toNat)
                case atStart => exact ⟨k, d1, rfl, Nat.le_refl _, H2.out, HX3.out⟩
                case round =>
                  obtain ⟨j, dk, rfl, hjk0, hs, heq⟩ := hrel
                  have HK := Lib.hid hs
                  have HE := Lib.hid heq
                  clear hs heq HX3 H2 hik
                  have hjn : j < n := by omega
                  by_cases hj1 : 1 ≤ j
                  · have hj1I : (1 : Int) ≤ (j : Int) := by omega
                    have HKK := Lib.hid hjk0
                    obtain ⟨k0, hk0⟩ : ∃ x, x = k := ⟨_, rfl⟩
                    obtain ⟨k, hjk⟩ : ∃ k, j = k + 1 := ⟨j - 1, by omega⟩
                    have hkn : k < n := by omega
                    obtain ⟨x, hx⟩ : ∃ x, x = dk[j]! := ⟨_, rfl⟩
                    obtain ⟨y, hy⟩ : ∃ y, y = dk[k]! := ⟨_, rfl⟩
                    obtain ⟨z, hz⟩ : ∃ z, z = cf x y := ⟨_, rfl⟩
                    have ASK := Lib.hid (ask_at K HK.out hjn hkn)
                    have CX := Lib.hid (cell_at HK.out hjn)
                    have CY := Lib.hid (cell_at HK.out hkn)
                    rw [← hx, ← hy, ← hz] at ASK
                    rw [← hx] at CX
                    rw [← hy] at CY
                    have HIN : Hid (X3 = if ltc cf x y = true then Sort.shiftDown (ltc cf) k (Sort.swp dk j k) else dk) := by
                      show _ = _
                      rw [← HE.out, hjk, Sort.shiftDown, ← hjk, ← hx, ← hy]
                      by_cases h : ltc cf x y = true
                      · rw [if_pos h, if_neg (by simp [h])]
                      · rw [if_neg h, if_pos (by simpa using h)]
                    have HJK := Lib.hid hjk
                    clear HE hjk hk0
                    by_cases hlt : ltc cf x y = true
                    · have HT := Lib.hid (ltc_t hlt hz)
                      have HE2 : Hid (Sort.shiftDown (ltc cf) k (Sort.swp dk j k) = X3) := by show _ = _; rw [HIN.out, if_pos hlt]
                      clear HIN hlt hz hx hy
                      go_wp2_with (fail)
                      refine lxX ?_; refine lxM (fvOf f bs cb) rfl ?_; refine lxM (.slice (some ⟨g, 0, none⟩) n c) rfl ?_; refine lxM (.int .i64 (j : Int)) rfl ?_; refine lxT (.tmp 73) (.tmp 74) (.slice (some ⟨g, 0, none⟩) n c) (.int .i64 (j : Int)) (.pointer (some ⟨g, j, none⟩)) (fun wx ρ hwx h0 h1 hc => idx_i rfl hjn ρ wx h0 h1) ?_; refine lxR (.tmp 75) (.pointer (some ⟨g, j, none⟩)) (iV x) (fun wx ρ hwx h0 hc => load_i rfl ρ (CX.out wx hwx) h0) ?_; refine lxM (.slice (some ⟨g, 0, none⟩) n c) rfl ?_; refine lxM (.int .i64 (j : Int)) rfl ?_; refine lxR (.tmp 78) (.int .i64 (j : Int)) (.int .i64 (k : Int)) (fun wx ρ hwx h0 hc => bin_sub rfl _ 1 HJK.out (by omega) ρ wx h0 (hc _)) ?_; refine lxT (.tmp 77) (.tmp 79) (.slice (some ⟨g, 0, none⟩) n c) (.int .i64 (k : Int)) (.pointer (some ⟨g, k, none⟩)) (fun wx ρ hwx h0 h1 hc => idx_i rfl hkn ρ wx h0 h1) ?_; refine lxR (.tmp 80) (.pointer (some ⟨g, k, none⟩)) (iV y) (fun wx ρ hwx h0 hc => load_i rfl ρ (CY.out wx hwx) h0) ?_
                      refine wpL_val (.int .i64 z) [iV x, iV y] (by kernel_rfl) (by kernel_rfl) rfl (by kernel_rfl) (by kernel_rfl) (by kernel_rfl) (by kernel_rfl) ENT.out (fun wx hwx => ASK.out wx hwx) ?_
                      refine lxR (.tmp 82) (.int .i64 z) (.bool true) (fun wx ρ hwx h0 hc => lss_i rfl HT.out ρ wx h0 (hc _)) ?_; refine lxR (.tmp 83) (.bool true) (.bool false) (fun wx ρ hwx h0 hc => not_b rfl rfl ρ wx h0) ?_
                      refine wpL_end (by kernel_rfl) (fun w1 hw1 => ?_)
                      simp only [FinL, setL, List.set_cons_zero, List.set_cons_succ]
                      have H1 := Lib.hid (HK.out.later hw1)
                      clear ASK CX CY
                      obtain ⟨xi, hxi⟩ : ∃ x, x = dk[j]! := ⟨_, rfl⟩
                      obtain ⟨xj, hxj⟩ : ∃ x, x = dk[k]! := ⟨_, rfl⟩
                      have H2 := Lib.hid (H1.out.swap hjn hkn).drew
                      have k1 := H1.out.cell hjn
                      have k2 := H1.out.cell hkn
                      have f1 := H1.out.froz hjn
                      have f2 := H1.out.froz hkn
                      obtain ⟨u, k3⟩ := H1.out.swap2 hjn hkn
                      rw [← hxi, ← hxj] at H2
                      rw [← hxi] at k1
                      rw [← hxj] at k2 k3
                      clear hxi hxj
                      have hsub : IntKind.i64.wrap ((j : Int) - 1) = (k : Int) := by have := HJK.out; rw [IntKind.wrap_i64]; omega
                      go_wp2_with (fail)
                      go_region
                      go_wp2
                      go_roundw
                      case rel => exact ⟨k, Sort.swp dk j k, by go_num, by have := HJK.out; omega, H2.out, HE2.out⟩
                      case measure => have := HJK.out; simp [intOf]; omega
                    · have hlf : ltc cf x y = false := by simpa using hlt
                      have HT := Lib.hid (ltc_t hlf hz)
                      have HE2 : Hid (X3 = dk) := by show _ = _; rw [HIN.out, if_neg hlt]
                      clear HIN hlt hlf hz hx hy
                      go_wp2_with (fail)
                      refine lxX ?_; refine lxM (fvOf f bs cb) rfl ?_; refine lxM (.slice (some ⟨g, 0, none⟩) n c) rfl ?_; refine lxM (.int .i64 (j : Int)) rfl ?_; refine lxT (.tmp 73) (.tmp 74) (.slice (some ⟨g, 0, none⟩) n c) (.int .i64 (j : Int)) (.pointer (some ⟨g, j, none⟩)) (fun wx ρ hwx h0 h1 hc => idx_i rfl hjn ρ wx h0 h1) ?_; refine lxR (.tmp 75) (.pointer (some ⟨g, j, none⟩)) (iV x) (fun wx ρ hwx h0 hc => load_i rfl ρ (CX.out wx hwx) h0) ?_; refine lxM (.slice (some ⟨g, 0, none⟩) n c) rfl ?_; refine lxM (.int .i64 (j : Int)) rfl ?_; refine lxR (.tmp 78) (.int .i64 (j : Int)) (.int .i64 (k : Int)) (fun wx ρ hwx h0 hc => bin_sub rfl _ 1 HJK.out (by omega) ρ wx h0 (hc _)) ?_; refine lxT (.tmp 77) (.tmp 79) (.slice (some ⟨g, 0, none⟩) n c) (.int .i64 (k : Int)) (.pointer (some ⟨g, k, none⟩)) (fun wx ρ hwx h0 h1 hc => idx_i rfl hkn ρ wx h0 h1) ?_; refine lxR (.tmp 80) (.pointer (some ⟨g, k, none⟩)) (iV y) (fun wx ρ hwx h0 hc => load_i rfl ρ (CY.out wx hwx) h0) ?_
                      refine wpL_val (.int .i64 z) [iV x, iV y] (by kernel_rfl) (by kernel_rfl) rfl (by kernel_rfl) (by kernel_rfl) (by kernel_rfl) (by kernel_rfl) ENT.out (fun wx hwx => ASK.out wx hwx) ?_
                      refine lxR (.tmp 82) (.int .i64 z) (.bool false) (fun wx ρ hwx h0 hc => lss_i rfl HT.out ρ wx h0 (hc _)) ?_; refine lxR (.tmp 83) (.bool false) (.bool true) (fun wx ρ hwx h0 hc => not_b rfl rfl ρ wx h0) ?_
                      refine wpL_end (by kernel_rfl) (fun w1 hw1 => ?_)
                      simp only [FinL, setL, List.set_cons_zero, List.set_cons_succ]
                      have H1 := Lib.hid (HK.out.later hw1)
                      clear ASK CX CY
                      have H18 : Hid (Sort.partialIns (ltc cf) a b s i (if b - i ≥ 2 then Sort.shiftUp (ltc cf) b (i + 1) dk else dk) = R) := by show _ = _; rw [← HE2.out]; exact H17.out
                      obtain ⟨bi, hbi⟩ : ∃ x, x = b - i := ⟨_, rfl⟩
                      have hbiI : (b : Int) - (i : Int) = (bi : Int) := by omega
                      have hbib : bi ≤ 100000 := by omega
                      by_cases hb2 : 2 ≤ bi
                      · have hb2I : (2 : Int) ≤ (bi : Int) := by omega
                        obtain ⟨X4, hX4⟩ : ∃ X, X = Sort.shiftUp (ltc cf) b (i + 1) dk := ⟨_, rfl⟩
                        have H19 : Hid (Sort.partialIns (ltc cf) a b s i X4 = R) := by have hc : b - i ≥ 2 := (by omega); have e := H18.out; simp only [if_pos hc] at e; rw [← hX4] at e; exact e
                        have HX4 := Lib.hid hX4.symm
                        have hi1b : i + 1 ≤ b := by omega
                        clear H18 hX4 hbi
                        go_wp2
                        go_loopw [12] (fun v12 ws => ∃ (j : Nat) (dk : Array Nat), v12 = .int .i64 (j : Int) ∧ i + 1 ≤ j ∧ j ≤ b ∧ Sd Ok B w0 Ts g n c Rs ws dk ∧ Sort.shiftUp (ltc cf) b j dk = X4) (fun v12 _ => b + 1 - (intOf v12).toNat)
                        case atStart => exact ⟨i + 1, dk, by go_num, Nat.le_refl _, hi1b, H1.out, HX4.out⟩
                        case round =>
                          obtain ⟨j, dk, rfl, hij, hjb, hs, heq⟩ := hrel
                          have HK := Lib.hid hs
                          have HE := Lib.hid heq
                          clear hs heq HX4 H1
                          by_cases hjb2 : (j : Int) < (b : Int)
                          · have hjbn : j < b := by omega
                            have hjn : j < n := by omega
                            obtain ⟨k, hjk⟩ : ∃ k, j = k + 1 := ⟨j - 1, by omega⟩
                            have hkn : k < n := by omega
                            have hj1 : j - 1 = k := by omega
                            obtain ⟨x, hx⟩ : ∃ x, x = dk[j]! := ⟨_, rfl⟩
                            obtain ⟨y, hy⟩ : ∃ y, y = dk[k]! := ⟨_, rfl⟩
                            obtain ⟨z, hz⟩ : ∃ z, z = cf x y := ⟨_, rfl⟩
                            have ASK := Lib.hid (ask_at K HK.out hjn hkn)
                            have CX := Lib.hid (cell_at HK.out hjn)
                            have CY := Lib.hid (cell_at HK.out hkn)
                            rw [← hx, ← hy, ← hz] at ASK
                            rw [← hx] at CX
                            rw [← hy] at CY
                            have HIN : Hid (X4 = if ltc cf x y = true then Sort.shiftUp (ltc cf) b (j + 1) (Sort.swp dk j k) else dk) := by
                              show _ = _
                              rw [← HE.out, Sort.shiftUp, if_pos hjbn, hj1, ← hx, ← hy]
                              by_cases h : ltc cf x y = true
                              · rw [if_pos h, if_neg (by simp [h])]
                              · rw [if_neg h, if_pos (by simpa using h)]
                            have HJK := Lib.hid hjk
                            clear HE hjk hj1
                            by_cases hlt : ltc cf x y = true
                            · have HT := Lib.hid (ltc_t hlt hz)
                              have HE2 : Hid (Sort.shiftUp (ltc cf) b (j + 1) (Sort.swp dk j k) = X4) := by show _ = _; rw [HIN.out, if_pos hlt]
                              clear HIN hlt hz hx hy
                              go_wp2_with (fail)
                              refine lxX ?_; refine lxM (fvOf f bs cb) rfl ?_; refine lxM (.slice (some ⟨g, 0, none⟩) n c) rfl ?_; refine lxM (.int .i64 (j : Int)) rfl ?_; refine lxT (.tmp 113) (.tmp 114) (.slice (some ⟨g, 0, none⟩) n c) (.int .i64 (j : Int)) (.pointer (some ⟨g, j, none⟩)) (fun wx ρ hwx h0 h1 hc => idx_i rfl hjn ρ wx h0 h1) ?_; refine lxR (.tmp 115) (.pointer (some ⟨g, j, none⟩)) (iV x) (fun wx ρ hwx h0 hc => load_i rfl ρ (CX.out wx hwx) h0) ?_; refine lxM (.slice (some ⟨g, 0, none⟩) n c) rfl ?_; refine lxM (.int .i64 (j : Int)) rfl ?_; refine lxR (.tmp 118) (.int .i64 (j : Int)) (.int .i64 (k : Int)) (fun wx ρ hwx h0 hc => bin_sub rfl _ 1 HJK.out (by omega) ρ wx h0 (hc _)) ?_; refine lxT (.tmp 117) (.tmp 119) (.slice (some ⟨g, 0, none⟩) n c) (.int .i64 (k : Int)) (.pointer (some ⟨g, k, none⟩)) (fun wx ρ hwx h0 h1 hc => idx_i rfl hkn ρ wx h0 h1) ?_; refine lxR (.tmp 120) (.pointer (some ⟨g, k, none⟩)) (iV y) (fun wx ρ hwx h0 hc => load_i rfl ρ (CY.out wx hwx) h0) ?_
                              refine wpL_val (.int .i64 z) [iV x, iV y] (by kernel_rfl) (by kernel_rfl) rfl (by kernel_rfl) (by kernel_rfl) (by kernel_rfl) (by kernel_rfl) ENT.out (fun wx hwx => ASK.out wx hwx) ?_
                              refine lxR (.tmp 122) (.int .i64 z) (.bool true) (fun wx ρ hwx h0 hc => lss_i rfl HT.out ρ wx h0 (hc _)) ?_; refine lxR (.tmp 123) (.bool true) (.bool false) (fun wx ρ hwx h0 hc => not_b rfl rfl ρ wx h0) ?_
                              refine wpL_end (by kernel_rfl) (fun w1 hw1 => ?_)
                              simp only [FinL, setL, List.set_cons_zero, List.set_cons_succ]
                              have H1 := Lib.hid (HK.out.later hw1)
                              clear ASK CX CY
                              obtain ⟨xi, hxi⟩ : ∃ x, x = dk[j]! := ⟨_, rfl⟩
                              obtain ⟨xj, hxj⟩ : ∃ x, x = dk[k]! := ⟨_, rfl⟩
                              have H2 := Lib.hid (H1.out.swap hjn hkn).drew
                              have k1 := H1.out.cell hjn
                              have k2 := H1.out.cell hkn
                              have f1 := H1.out.froz hjn
                              have f2 := H1.out.froz hkn
                              obtain ⟨u, k3⟩ := H1.out.swap2 hjn hkn
                              rw [← hxi, ← hxj] at H2
                              rw [← hxi] at k1
                              rw [← hxj] at k2 k3
                              clear hxi hxj
                              have hsub : IntKind.i64.wrap ((j : Int) - 1) = (k : Int) := by have := HJK.out; rw [IntKind.wrap_i64]; omega
                              go_wp2_with (fail)
                              go_region
                              go_wp2
                              go_roundw
                              case rel => exact ⟨j + 1, Sort.swp dk j k, by go_num, by omega, by omega, H2.out, HE2.out⟩
                              case measure => simp [intOf]; omega
                            · have hlf : ltc cf x y = false := by simpa using hlt
                              have HT := Lib.hid (ltc_t hlf hz)
                              have HE2 : Hid (X4 = dk) := by show _ = _; rw [HIN.out, if_neg hlt]
                              clear HIN hlt hlf hz hx hy
                              go_wp2_with (fail)
                              refine lxX ?_; refine lxM (fvOf f bs cb) rfl ?_; refine lxM (.slice (some ⟨g, 0, none⟩) n c) rfl ?_; refine lxM (.int .i64 (j : Int)) rfl ?_; refine lxT (.tmp 113) (.tmp 114) (.slice (some ⟨g, 0, none⟩) n c) (.int .i64 (j : Int)) (.pointer (some ⟨g, j, none⟩)) (fun wx ρ hwx h0 h1 hc => idx_i rfl hjn ρ wx h0 h1) ?_; refine lxR (.tmp 115) (.pointer (some ⟨g, j, none⟩)) (iV x) (fun wx ρ hwx h0 hc => load_i rfl ρ (CX.out wx hwx) h0) ?_; refine lxM (.slice (some ⟨g, 0, none⟩) n c) rfl ?_; refine lxM (.int .i64 (j : Int)) rfl ?_; refine lxR (.tmp 118) (.int .i64 (j : Int)) (.int .i64 (k : Int)) (fun wx ρ hwx h0 hc => bin_sub rfl _ 1 HJK.out (by omega) ρ wx h0 (hc _)) ?_; refine lxT (.tmp 117) (.tmp 119) (.slice (some ⟨g, 0, none⟩) n c) (.int .i64 (k : Int)) (.pointer (some ⟨g, k, none⟩)) (fun wx ρ hwx h0 h1 hc => idx_i rfl hkn ρ wx h0 h1) ?_; refine lxR (.tmp 120) (.pointer (some ⟨g, k, none⟩)) (iV y) (fun wx ρ hwx h0 hc => load_i rfl ρ (CY.out wx hwx) h0) ?_
                              refine wpL_val (.int .i64 z) [iV x, iV y] (by kernel_rfl) (by kernel_rfl) rfl (by kernel_rfl) (by kernel_rfl) (by kernel_rfl) (by kernel_rfl) ENT.out (fun wx hwx => ASK.out wx hwx) ?_
                              refine lxR (.tmp 122) (.int .i64 z) (.bool false) (fun wx ρ hwx h0 hc => lss_i rfl HT.out ρ wx h0 (hc _)) ?_; refine lxR (.tmp 123) (.bool false) (.bool true) (fun wx ρ hwx h0 hc => not_b rfl rfl ρ wx h0) ?_
                              refine wpL_end (by kernel_rfl) (fun w1 hw1 => ?_)
                              simp only [FinL, setL, List.set_cons_zero, List.set_cons_succ]
                              have H1 := Lib.hid (HK.out.later hw1)
                              clear ASK CX CY
                              have H1' := Lib.hid (H1.out.eqd HE2.out)
                              go_wp2
                              go_roundw
                              case rel => exact ⟨s, i, jj + 1, X4, by omega, by go_num, rfl, hai, by omega, H1'.out, H19.out⟩
                              case measure => simp [intOf]; omega
                          · have HE2 : Hid (X4 = dk) := by show _ = _; rw [← HE.out, Sort.shiftUp, if_neg (by omega)]
                            have H1' := Lib.hid (HK.out.eqd HE2.out)
                            clear HE
                            go_wp2
                            go_roundw
                            case rel => exact ⟨s, i, jj + 1, X4, by omega, by go_num, rfl, hai, by omega, H1'.out, H19.out⟩
                            case measure => simp [intOf]; omega
                      · have hb2I : ¬ (2 : Int) ≤ (bi : Int) := by omega
                        have H19 : Hid (Sort.partialIns (ltc cf) a b s i dk = R) := by have hc : ¬ b - i ≥ 2 := (by omega); have e := H18.out; simp only [if_neg hc] at e; exact e
                        clear H18 hbi
                        go_wp2
                        go_roundw
                        case rel => exact ⟨s, i, jj + 1, dk, by omega, by go_num, rfl, hai, by omega, H1.out, H19.out⟩
                        case measure => simp [intOf]; omega
                  · have hj1I : ¬ (1 : Int) ≤ (j : Int) := by omega
                    obtain rfl : j = 0 := by omega
                    have HE2 : Hid (X3 = dk) := HE.out.symm
                    clear HE
                    have H18 : Hid (Sort.partialIns (ltc cf) a b s i (if b - i ≥ 2 then Sort.shiftUp (ltc cf) b (i + 1) dk else dk) = R) := by show _ = _; rw [← HE2.out]; exact H17.out
                    have H1 := HK
                    clear HK
                    obtain ⟨bi, hbi⟩ : ∃ x, x = b - i := ⟨_, rfl⟩
                    have hbiI : (b : Int) - (i : Int) = (bi : Int) := by omega
                    have hbib : bi ≤ 100000 := by omega
                    by_cases hb2 : 2 ≤ bi
                    · have hb2I : (2 : Int) ≤ (bi : Int) := by omega
                      obtain ⟨X4, hX4⟩ : ∃ X, X = Sort.shiftUp (ltc cf) b (i + 1) dk := ⟨_, rfl⟩
                      have H19 : Hid (Sort.partialIns (ltc cf) a b s i X4 = R) := by have hc : b - i ≥ 2 := (by omega); have e := H18.out; simp only [if_pos hc] at e; rw [← hX4] at e; exact e
                      have HX4 := Lib.hid hX4.symm
                      have hi1b : i + 1 ≤ b := by omega
                      clear H18 hX4 hbi
                      go_wp2
                      go_loopw [12] (fun v12 ws => ∃ (j : Nat) (dk : Array Nat), v12 = .int .i64 (j : Int) ∧ i + 1 ≤ j ∧ j ≤ b ∧ Sd Ok B w0 Ts g n c Rs ws dk ∧ Sort.shiftUp (ltc cf) b j dk = X4) (fun v12 _ => b + 1 - (intOf v12).toNat)
                      case atStart => exact ⟨i + 1, dk, by go_num, Nat.le_refl _, hi1b, H1.out, HX4.out⟩
                      case round =>
                        obtain ⟨j, dk, rfl, hij, hjb, hs, heq⟩ := hrel
                        have HK := Lib.hid hs
                        have HE := Lib.hid heq
                        clear hs heq HX4 H1
                        by_cases hjb2 : (j : Int) < (b : Int)
                        · have hjbn : j < b := by omega
                          have hjn : j < n := by omega
                          obtain ⟨k, hjk⟩ : ∃ k, j = k + 1 := ⟨j - 1, by omega⟩
                          have hkn : k < n := by omega
                          have hj1 : j - 1 = k := by omega
                          obtain ⟨x, hx⟩ : ∃ x, x = dk[j]! := ⟨_, rfl⟩
                          obtain ⟨y, hy⟩ : ∃ y, y = dk[k]! := ⟨_, rfl⟩
                          obtain ⟨z, hz⟩ : ∃ z, z = cf x y := ⟨_, rfl⟩
                          have ASK := Lib.hid (ask_at K HK.out hjn hkn)
                          have CX := Lib.hid (cell_at HK.out hjn)
                          have CY := Lib.hid (cell_at HK.out hkn)
                          rw [← hx, ← hy, ← hz] at ASK
                          rw [← hx] at CX
                          rw [← hy] at CY
                          have HIN : Hid (X4 = if ltc cf x y = true then Sort.shiftUp (ltc cf) b (j + 1) (Sort.swp dk j k) else dk) := by
                            show _ = _
                            rw [← HE.out, Sort.shiftUp, if_pos hjbn, hj1, ← hx, ← hy]
                            by_cases h : ltc cf x y = true
                            · rw [if_pos h, if_neg (by simp [h])]
                            · rw [if_neg h, if_pos (by simpa using h)]
                          have HJK := Lib.hid hjk
                          clear HE hjk hj1
                          by_cases hlt : ltc cf x y = true
                          · have HT := Lib.hid (ltc_t hlt hz)
                            have HE2 : Hid (Sort.shiftUp (ltc cf) b (j + 1) (Sort.swp dk j k) = X4) := by show _ = _; rw [HIN.out, if_pos hlt]
                            clear HIN hlt hz hx hy
                            go_wp2_with (fail)
                            refine lxX ?_; refine lxM (fvOf f bs cb) rfl ?_; refine lxM (.slice (some ⟨g, 0, none⟩) n c) rfl ?_; refine lxM (.int .i64 (j : Int)) rfl ?_; refine lxT (.tmp 113) (.tmp 114) (.slice (some ⟨g, 0, none⟩) n c) (.int .i64 (j : Int)) (.pointer (some ⟨g, j, none⟩)) (fun wx ρ hwx h0 h1 hc => idx_i rfl hjn ρ wx h0 h1) ?_; refine lxR (.tmp 115) (.pointer (some ⟨g, j, none⟩)) (iV x) (fun wx ρ hwx h0 hc => load_i rfl ρ (CX.out wx hwx) h0) ?_; refine lxM (.slice (some ⟨g, 0, none⟩) n c) rfl ?_; refine lxM (.int .i64 (j : Int)) rfl ?_; refine lxR (.tmp 118) (.int .i64 (j : Int)) (.int .i64 (k : Int)) (fun wx ρ hwx h0 hc => bin_sub rfl _ 1 HJK.out (by omega) ρ wx h0 (hc _)) ?_; refine lxT (.tmp 117) (.tmp 119) (.slice (some ⟨g, 0, none⟩) n c) (.int .i64 (k : Int)) (.pointer (some ⟨g, k, none⟩)) (fun wx ρ hwx h0 h1 hc => idx_i rfl hkn ρ wx h0 h1) ?_; refine lxR (.tmp 120) (.pointer (some ⟨g, k, none⟩)) (iV y) (fun wx ρ hwx h0 hc => load_i rfl ρ (CY.out wx hwx) h0) ?_
                            refine wpL_val (.int .i64 z) [iV x, iV y] (by kernel_rfl) (by kernel_rfl) rfl (by kernel_rfl) (by kernel_rfl) (by kernel_rfl) (by kernel_rfl) ENT.out (fun wx hwx => ASK.out wx hwx) ?_
                            refine lxR (.tmp 122) (.int .i64 z) (.bool true) (fun wx ρ hwx h0 hc => lss_i rfl HT.out ρ wx h0 (hc _)) ?_; refine lxR (.tmp 123) (.bool true) (.bool false) (fun wx ρ hwx h0 hc => not_b rfl rfl ρ wx h0) ?_
                            refine wpL_end (by kernel_rfl) (fun w1 hw1 => ?_)
                            simp only [FinL, setL, List.set_cons_zero, List.set_cons_succ]
                            have H1 := Lib.hid (HK.out.later hw1)
                            clear ASK CX CY
                            obtain ⟨xi, hxi⟩ : ∃ x, x = dk[j]! := ⟨_, rfl⟩
                            obtain ⟨xj, hxj⟩ : ∃ x, x = dk[k]! := ⟨_, rfl⟩
                            have H2 := Lib.hid (H1.out.swap hjn hkn).drew
                            have k1 := H1.out.cell hjn
                            have k2 := H1.out.cell hkn
                            have f1 := H1.out.froz hjn
                            have f2 := H1.out.froz hkn
                            obtain ⟨u, k3⟩ := H1.out.swap2 hjn hkn
                            rw [← hxi, ← hxj] at H2
                            rw [← hxi] at k1
                            rw [← hxj] at k2 k3
                            clear hxi hxj
                            have hsub : IntKind.i64.wrap ((j : Int) - 1) = (k : Int) := by have := HJK.out; rw [IntKind.wrap_i64]; omega
                            go_wp2_with (fail)
                            go_region
                            go_wp2
                            go_roundw
                            case rel => exact ⟨j + 1, Sort.swp dk j k, by go_num, by omega, by omega, H2.out, HE2.out⟩
                            case measure => simp [intOf]; omega
                          · have hlf : ltc cf x y = false := by simpa using hlt
                            have HT := Lib.hid (ltc_t hlf hz)
                            have HE2 : Hid (X4 = dk) := by show _ = _; rw [HIN.out, if_neg hlt]
                            clear HIN hlt hlf hz hx hy
                            go_wp2_with (fail)
                            refine lxX ?_; refine lxM (fvOf f bs cb) rfl ?_; refine lxM (.slice (some ⟨g, 0, none⟩) n c) rfl ?_; refine lxM (.int .i64 (j : Int)) rfl ?_; refine lxT (.tmp 113) (.tmp 114) (.slice (some ⟨g, 0, none⟩) n c) (.int .i64 (j : Int)) (.pointer (some ⟨g, j, none⟩)) (fun wx ρ hwx h0 h1 hc => idx_i rfl hjn ρ wx h0 h1) ?_; refine lxR (.tmp 115) (.pointer (some ⟨g, j, none⟩)) (iV x) (fun wx ρ hwx h0 hc => load_i rfl ρ (CX.out wx hwx) h0) ?_; refine lxM (.slice (some ⟨g, 0, none⟩) n c) rfl ?_; refine lxM (.int .i64 (j : Int)) rfl ?_; refine lxR (.tmp 118) (.int .i64 (j : Int)) (.int .i64 (k : Int)) (fun wx ρ hwx h0 hc => bin_sub rfl _ 1 HJK.out (by omega) ρ wx h0 (hc _)) ?_; refine lxT (.tmp 117) (.tmp 119) (.slice (some ⟨g, 0, none⟩) n c) (.int .i64 (k : Int)) (.pointer (some ⟨g, k, none⟩)) (fun wx ρ hwx h0 h1 hc => idx_i rfl hkn ρ wx h0 h1) ?_; refine lxR (.tmp 120) (.pointer (some ⟨g, k, none⟩)) (iV y) (fun wx ρ hwx h0 hc => load_i rfl ρ (CY.out wx hwx) h0) ?_
                            refine wpL_val (.int .i64 z) [iV x, iV y] (by kernel_rfl) (by kernel_rfl) rfl (by kernel_rfl) (by kernel_rfl) (by kernel_rfl) (by kernel_rfl) ENT.out (fun wx hwx => ASK.out wx hwx) ?_
                            refine lxR (.tmp 122) (.int .i64 z) (.bool false) (fun wx ρ hwx h0 hc => lss_i rfl HT.out ρ wx h0 (hc _)) ?_; refine lxR (.tmp 123) (.bool false) (.bool true) (fun wx ρ hwx h0 hc => not_b rfl rfl ρ wx h0) ?_
                            refine wpL_end (by kernel_rfl) (fun w1 hw1 => ?_)
                            simp only [FinL, setL, List.set_cons_zero, List.set_cons_succ]
                            have H1 := Lib.hid (HK.out.later hw1)
                            clear ASK CX CY
                            have H1' := Lib.hid (H1.out.eqd HE2.out)
                            go_wp2
                            go_roundw
                            case rel => exact ⟨s, i, jj + 1, X4, by omega, by go_num, rfl, hai, by omega, H1'.out, H19.out⟩
                            case measure => simp [intOf]; omega
                        · have HE2 : Hid (X4 = dk) := by show _ = _; rw [← HE.out, Sort.shiftUp, if_neg (by omega)]
                          have H1' := Lib.hid (HK.out.eqd HE2.out)
                          clear HE
                          go_wp2
                          go_roundw
                          case rel => exact ⟨s, i, jj + 1, X4, by omega, by go_num, rfl, hai, by omega, H1'.out, H19.out⟩
                          case measure => simp [intOf]; omega
                    · have hb2I : ¬ (2 : Int) ≤ (bi : Int) := by omega
                      have H19 : Hid (Sort.partialIns (ltc cf) a b s i dk = R) := by have hc : ¬ b - i ≥ 2 := (by omega); have e := H18.out; simp only [if_neg hc] at e; exact e
                      clear H18 hbi
                      go_wp2
                      go_roundw
                      case rel => exact ⟨s, i, jj + 1, dk, by omega, by go_num, rfl, hai, by omega, H1.out, H19.out⟩
                      case measure => simp [intOf]; omega
              · have hi2I : ¬ (2 : Int) ≤ (ia : Int) := by omega
                have H18 : Hid (Sort.partialIns (ltc cf) a b s i (if b - i ≥ 2 then Sort.shiftUp (ltc cf) b (i + 1) d1 else d1) = R) := by have hc : ¬ i - a ≥ 2 := (by omega); have e := HPI.out; simp only [if_neg hc] at e; exact e
                clear HPI hia
                obtain ⟨dk, hdk⟩ : ∃ d, d = d1 := ⟨_, rfl⟩
                rw [← hdk] at H18 H2
                clear hdk
                obtain ⟨bi, hbi⟩ : ∃ x, x = b - i := ⟨_, rfl⟩
                have hbiI : (b : Int) - (i : Int) = (bi : Int) := by omega
                have hbib : bi ≤ 100000 := by omega
                by_cases hb2 : 2 ≤ bi
                · have hb2I : (2 : Int) ≤ (bi : Int) := by omega
                  obtain ⟨X4, hX4⟩ : ∃ X, X = Sort.shiftUp (ltc cf) b (i + 1) dk := ⟨_, rfl⟩
                  have H19 : Hid (Sort.partialIns (ltc cf) a b s i X4 = R) := by have hc : b - i ≥ 2 := (by omega); have e := H18.out; simp only [if_pos hc] at e; rw [← hX4] at e; exact e
                  have HX4 := Lib.hid hX4.symm
                  have hi1b : i + 1 ≤ b := by omega
                  clear H18 hX4 hbi
                  go_wp2
                  go_loopw [12] (fun v12 ws => ∃ (j : Nat) (dk : Array Nat), v12 = .int .i64 (j : Int) ∧ i + 1 ≤ j ∧ j ≤ b ∧ Sd Ok B w0 Ts g n c Rs ws dk ∧ Sort.shiftUp (ltc cf) b j dk = X4) (fun v12 _ => b + 1 - (intOf v12).toNat)
                  case atStart => exact ⟨i + 1, dk, by go_num, Nat.le_refl _, hi1b, H2.out, HX4.out⟩
                  case round =>
                    obtain ⟨j, dk, rfl, hij, hjb, hs, heq⟩ := hrel
                    have HK := Lib.hid hs
                    have HE := Lib.hid heq
                    clear hs heq HX4 H2
                    by_cases hjb2 : (j : Int) < (b : Int)
                    · have hjbn : j < b := by omega
                      have hjn : j < n := by omega
                      obtain ⟨k, hjk⟩ : ∃ k, j = k + 1 := ⟨j - 1, by omega⟩
                      have hkn : k < n := by omega
                      have hj1 : j - 1 = k := by omega
                      obtain ⟨x, hx⟩ : ∃ x, x = dk[j]! := ⟨_, rfl⟩
                      obtain ⟨y, hy⟩ : ∃ y, y = dk[k]! := ⟨_, rfl⟩
                      obtain ⟨z, hz⟩ : ∃ z, z = cf x y := ⟨_, rfl⟩
                      have ASK := Lib.hid (ask_at K HK.out hjn hkn)
                      have CX := Lib.hid (cell_at HK.out hjn)
                      have CY := Lib.hid (cell_at HK.out hkn)
                      rw [← hx, ← hy, ← hz] at ASK
                      rw [← hx] at CX
                      rw [← hy] at CY
                      have HIN : Hid (X4 = if ltc cf x y = true then Sort.shiftUp (ltc cf) b (j + 1) (Sort.swp dk j k) else dk) := by
                        show _ = _
                        rw [← HE.out, Sort.shiftUp, if_pos hjbn, hj1, ← hx, ← hy]
                        by_cases h : ltc cf x y = true
                        · rw [if_pos h, if_neg (by simp [h])]
                        · rw [if_neg h, if_pos (by simpa using h)]
                      have HJK := Lib.hid hjk
                      clear HE hjk hj1
                      by_cases hlt : ltc cf x y = true
                      · have HT := Lib.hid (ltc_t hlt hz)
                        have HE2 : Hid (Sort.shiftUp (ltc cf) b (j + 1) (Sort.swp dk j k) = X4) := by show _ = _; rw [HIN.out, if_pos hlt]
                        clear HIN hlt hz hx hy
                        go_wp2_with (fail)
                        refine lxX ?_; refine lxM (fvOf f bs cb) rfl ?_; refine lxM (.slice (some ⟨g, 0, none⟩) n c) rfl ?_; refine lxM (.int .i64 (j : Int)) rfl ?_; refine lxT (.tmp 113) (.tmp 114) (.slice (some ⟨g, 0, none⟩) n c) (.int .i64 (j : Int)) (.pointer (some ⟨g, j, none⟩)) (fun wx ρ hwx h0 h1 hc => idx_i rfl hjn ρ wx h0 h1) ?_; refine lxR (.tmp 115) (.pointer (some ⟨g, j, none⟩)) (iV x) (fun wx ρ hwx h0 hc => load_i rfl ρ (CX.out wx hwx) h0) ?_; refine lxM (.slice (some ⟨g, 0, none⟩) n c) rfl ?_; refine lxM (.int .i64 (j : Int)) rfl ?_; refine lxR (.tmp 118) (.int .i64 (j : Int)) (.int .i64 (k : Int)) (fun wx ρ hwx h0 hc => bin_sub rfl _ 1 HJK.out (by omega) ρ wx h0 (hc _)) ?_; refine lxT (.tmp 117) (.tmp 119) (.slice (some ⟨g, 0, none⟩) n c) (.int .i64 (k : Int)) (.pointer (some ⟨g, k, none⟩)) (fun wx ρ hwx h0 h1 hc => idx_i rfl hkn ρ wx h0 h1) ?_; refine lxR (.tmp 120) (.pointer (some ⟨g, k, none⟩)) (iV y) (fun wx ρ hwx h0 hc => load_i rfl ρ (CY.out wx hwx) h0) ?_
                        refine wpL_val (.int .i64 z) [iV x, iV y] (by kernel_rfl) (by kernel_rfl) rfl (by kernel_rfl) (by kernel_rfl) (by kernel_rfl) (by kernel_rfl) ENT.out (fun wx hwx => ASK.out wx hwx) ?_
                        refine lxR (.tmp 122) (.int .i64 z) (.bool true) (fun wx ρ hwx h0 hc => lss_i rfl HT.out ρ wx h0 (hc _)) ?_; refine lxR (.tmp 123) (.bool true) (.bool false) (fun wx ρ hwx h0 hc => not_b rfl rfl ρ wx h0) ?_
                        refine wpL_end (by kernel_rfl) (fun w1 hw1 => ?_)
                        simp only [FinL, setL, List.set_cons_zero, List.set_cons_succ]
                        have H1 := Lib.hid (HK.out.later hw1)
                        clear ASK CX CY
                        obtain ⟨xi, hxi⟩ : ∃ x, x = dk[j]! := ⟨_, rfl⟩
                        obtain ⟨xj, hxj⟩ : ∃ x, x = dk[k]! := ⟨_, rfl⟩
                        have H2 := Lib.hid (H1.out.swap hjn hkn).drew
                        have k1 := H1.out.cell hjn
                        have k2 := H1.out.cell hkn
                        have f1 := H1.out.froz hjn
                        have f2 := H1.out.froz hkn
                        obtain ⟨u, k3⟩ := H1.out.swap2 hjn hkn
                        rw [← hxi, ← hxj] at H2
                        rw [← hxi] at k1
                        rw [← hxj] at k2 k3
                        clear hxi hxj
                        have hsub : IntKind.i64.wrap ((j : Int) - 1) = (k : Int) := by have := HJK.out; rw [IntKind.wrap_i64]; omega
                        go_wp2_with (fail)
                        go_region
                        go_wp2
                        go_roundw
                        case rel => exact ⟨j + 1, Sort.swp dk j k, by go_num, by omega, by omega, H2.out, HE2.out⟩
                        case measure => simp [intOf]; omega
                      · have hlf : ltc cf x y = false := by simpa using hlt
                        have HT := Lib.hid (ltc_t hlf hz)
                        have HE2 : Hid (X4 = dk) := by show _ = _; rw [HIN.out, if_neg hlt]
                        clear HIN hlt hlf hz hx hy
                        go_wp2_with (fail)
                        refine lxX ?_; refine lxM (fvOf f bs cb) rfl ?_; refine lxM (.slice (some ⟨g, 0, none⟩) n c) rfl ?_; refine lxM (.int .i64 (j : Int)) rfl ?_; refine lxT (.tmp 113) (.tmp 114) (.slice (some ⟨g, 0, none⟩) n c) (.int .i64 (j : Int)) (.pointer (some ⟨g, j, none⟩)) (fun wx ρ hwx h0 h1 hc => idx_i rfl hjn ρ wx h0 h1) ?_; refine lxR (.tmp 115) (.pointer (some ⟨g, j, none⟩)) (iV x) (fun wx ρ hwx h0 hc => load_i rfl ρ (CX.out wx hwx) h0) ?_; refine lxM (.slice (some ⟨g, 0, none⟩) n c) rfl ?_; refine lxM (.int .i64 (j : Int)) rfl ?_; refine lxR (.tmp 118) (.int .i64 (j : Int)) (.int .i64 (k : Int)) (fun wx ρ hwx h0 hc => bin_sub rfl _ 1 HJK.out (by omega) ρ wx h0 (hc _)) ?_; refine lxT (.tmp 117) (.tmp 119) (.slice (some ⟨g, 0, none⟩) n c) (.int .i64 (k : Int)) (.pointer (some ⟨g, k, none⟩)) (fun wx ρ hwx h0 h1 hc => idx_i rfl hkn ρ wx h0 h1) ?_; refine lxR (.tmp 120) (.pointer (some ⟨g, k, none⟩)) (iV y) (fun wx ρ hwx h0 hc => load_i rfl ρ (CY.out wx hwx) h0) ?_
                        refine wpL_val (.int .i64 z) [iV x, iV y] (by kernel_rfl) (by kernel_rfl) rfl (by kernel_rfl) (by kernel_rfl) (by kernel_rfl) (by kernel_rfl) ENT.out (fun wx hwx => ASK.out wx hwx) ?_
                        refine lxR (.tmp 122) (.int .i64 z) (.bool false) (fun wx ρ hwx h0 hc => lss_i rfl HT.out ρ wx h0 (hc _)) ?_; refine lxR (.tmp 123) (.bool false) (.bool true) (fun wx ρ hwx h0 hc => not_b rfl rfl ρ wx h0) ?_
                        refine wpL_end (by kernel_rfl) (fun w1 hw1 => ?_)
                        simp only [FinL, setL, List.set_cons_zero, List.set_cons_succ]
                        have H1 := Lib.hid (HK.out.later hw1)
                        clear ASK CX CY
                        have H1' := Lib.hid (H1.out.eqd HE2.out)
                        go_wp2
                        go_roundw
                        case rel => exact ⟨s, i, jj + 1, X4, by omega, by go_num, rfl, hai, by omega, H1'.out, H19.out⟩
                        case measure => simp [intOf]; omega
                    · have HE2 : Hid (X4 = dk) := by show _ = _; rw [← HE.out, Sort.shiftUp, if_neg (by omega)]
                      have H1' := Lib.hid (HK.out.eqd HE2.out)
                      clear HE
                      go_wp2
                      go_roundw
                      case rel => exact ⟨s, i, jj + 1, X4, by omega, by go_num, rfl, hai, by omega, H1'.out, H19.out⟩
                      case measure => simp [intOf]; omega
                · have hb2I : ¬ (2 : Int) ≤ (bi : Int) := by omega
                  have H19 : Hid (Sort.partialIns (ltc cf) a b s i dk = R) := by have hc : ¬ b - i ≥ 2 := (by omega); have e := H18.out; simp only [if_neg hc] at e; exact e
                  clear H18 hbi
                  go_wp2
                  go_roundw
                  case rel => exact ⟨s, i, jj + 1, dk, by omega, by go_num, rfl, hai, by omega, H2.out, H19.out⟩
                  case measure => simp [intOf]; omega
          · have hlf : ltc cf x y = false := by simpa using hlt
            have HT := Lib.hid (ltc_t hlf hz)
            have HE2 : Hid (Sort.scanSorted (ltc cf) dk b (i + 1) = I2) := by show _ = _; rw [HIN.out, if_neg hlt]
            clear HIN hlt hlf hz hx hy
            go_wp2_with (fail)
            refine lxX ?_; refine lxM (.int .i64 (i : Int)) rfl ?_; refine lxM (.int .i64 (b : Int)) rfl ?_; refine lxT (.tmp 19) (.tmp 20) (.int .i64 (i : Int)) (.int .i64 (b : Int)) (.bool true) (fun wx ρ hwx h0 h1 hc => lss_i rfl hgd ρ wx h0 h1) ?_; refine lxM (.bool true) rfl ?_; refine lxM (fvOf f bs cb) rfl ?_; refine lxM (.slice (some ⟨g, 0, none⟩) n c) rfl ?_; refine lxM (.int .i64 (i : Int)) rfl ?_; refine lxT (.tmp 24) (.tmp 25) (.slice (some ⟨g, 0, none⟩) n c) (.int .i64 (i : Int)) (.pointer (some ⟨g, i, none⟩)) (fun wx ρ hwx h0 h1 hc => idx_i rfl hin ρ wx h0 h1) ?_; refine lxR (.tmp 26) (.pointer (some ⟨g, i, none⟩)) (iV x) (fun wx ρ hwx h0 hc => load_i rfl ρ (CX.out wx hwx) h0) ?_; refine lxM (.slice (some ⟨g, 0, none⟩) n c) rfl ?_; refine lxM (.int .i64 (i : Int)) rfl ?_; refine lxR (.tmp 29) (.int .i64 (i : Int)) (.int .i64 (k : Int)) (fun wx ρ hwx h0 hc => bin_sub rfl _ 1 HIK.out (by omega) ρ wx h0 (hc _)) ?_; refine lxT (.tmp 28) (.tmp 30) (.slice (some ⟨g, 0, none⟩) n c) (.int .i64 (k : Int)) (.pointer (some ⟨g, k, none⟩)) (fun wx ρ hwx h0 h1 hc => idx_i rfl hkn ρ wx h0 h1) ?_; refine lxR (.tmp 31) (.pointer (some ⟨g, k, none⟩)) (iV y) (fun wx ρ hwx h0 hc => load_i rfl ρ (CY.out wx hwx) h0) ?_
            refine wpL_val (.int .i64 z) [iV x, iV y] (by kernel_rfl) (by kernel_rfl) rfl (by kernel_rfl) (by kernel_rfl) (by kernel_rfl) (by kernel_rfl) ENT.out (fun wx hwx => ASK.out wx hwx) ?_
            refine lxR (.tmp 33) (.int .i64 z) (.bool false) (fun wx ρ hwx h0 hc => lss_i rfl HT.out ρ wx h0 (hc _)) ?_; refine lxR (.tmp 34) (.bool false) (.bool true) (fun wx ρ hwx h0 hc => not_b rfl rfl ρ wx h0) ?_; refine lxB (.tmp 22) (.tmp 35) (.bool true) (.bool true) (.bool true) ?_
            refine wpL_end (by kernel_rfl) (fun w1 hw1 => ?_)
            simp only [FinL, setL, List.set_cons_zero, List.set_cons_succ]
            have H1 := Lib.hid (HK.out.later hw1)
            clear ASK CX CY
            go_wp2
            go_roundw
            case rel => exact ⟨i + 1, by go_num, by omega, by omega, H1.out, HE2.out⟩
            case measure => simp [intOf]; omega
        · have hgd : decide ((i : Int) < (b : Int)) = false := decide_eq_false (by omega)
          have hibI : ((i : Int) == (b : Int)) = true := by simp; omega
          have HE2 : Hid (R = (dk, true)) := by
            have e := HE.out
            rw [Sort.scanSorted, if_neg (by simp [hi])] at e
            have p := HPS.out
            rw [← e, if_pos (by omega)] at p
            exact p
          clear HE HPS
          go_wp2_with (fail)
          refine lxX ?_; refine lxM (.int .i64 (i : Int)) rfl ?_; refine lxM (.int .i64 (b : Int)) rfl ?_; refine lxT (.tmp 19) (.tmp 20) (.int .i64 (i : Int)) (.int .i64 (b : Int)) (.bool false) (fun wx ρ hwx h0 h1 hc => lss_i rfl hgd ρ wx h0 h1) ?_; refine lxM (.bool false) rfl ?_; refine lxS ?_; refine lxS ?_; refine lxS ?_; refine lxS ?_; refine lxS ?_; refine lxS ?_; refine lxS ?_; refine lxS ?_; refine lxS ?_; refine lxS ?_; refine lxS ?_; refine lxS ?_; refine lxS ?_; refine lxR (.tmp 22) (.bool false) (.bool false) (fun wx ρ hwx h0 hc => by simp [go_sem, h0, hc]) ?_
          refine wpL_end (by kernel_rfl) (fun w1 hw1 => ?_)
          simp only [FinL, setL, List.set_cons_zero, List.set_cons_succ]
          have H1 := Lib.hid (HK.out.later hw1)
          go_wp2
          go_ret
          rw [HE2.out]
          exact ⟨rfl, H1.out⟩
end
end Srt
end Go.Proofs.YtmdphcebmgcdbaaGreat
end
section
namespace Go.Proofs.YtmdphcebmgcdbaaGreat
open Go.RowKit Go.Own
namespace Srt
section
variable {f : FuncId} {bs cb : Array Value} {cf : Nat → Nat → Int} {Ok : Nat → Prop} {B : Nat} {w0 w : World} {Ts Rs : List Asn} {g n c : Nat} {d : Array Nat}
set_option maxRecDepth 6000 in
set_option maxHeartbeats 16000000 in
theorem partEq_any (K : Cmp f bs cb cf Ok B w0 Ts) (S : Sd Ok B w0 Ts g n c Rs w d) (a b p : Nat) (hap : a ≤ p) (hpb : p < b) (hb : b ≤ n) (hn : n ≤ 100000) :
    Calls Tryz.prog 83 #[.slice (some ⟨g, 0, none⟩) n c, .int .i64 (a : Int), .int .i64 (b : Int), .int .i64 (p : Int), fvOf f bs cb] w fun e w' => e = .returned (iV (Sort.partitionEqual (ltc cf) d a b p).1) ∧ Sd Ok B w0 Ts g n c Rs w' (Sort.partitionEqual (ltc cf) d a b p).2 := by
  have HS := Lib.hid S
  have ENT := Lib.hid K.ent
  obtain ⟨R, hR⟩ : ∃ R, R = Sort.partitionEqual (ltc cf) d a b p := ⟨_, rfl⟩
  rw [← hR]
  obtain ⟨bj, hbj⟩ : ∃ x, b = x + 1 := ⟨b - 1, by omega⟩
  have hbjI : (b : Int) - 1 = (bj : Int) := by omega
  obtain ⟨dk, hdk⟩ : ∃ x, x = d := ⟨_, rfl⟩
  have han : a < n := by omega
  have hpn : p < n := by omega
  have HR0 : Hid (Sort.partEqLoop (ltc cf) a (a + 1) bj (Sort.swp dk a p) = R) := by show _ = _; rw [hR, hdk, hbj]; rfl
  rw [← hdk] at HS
  have hbb : bj + 1 ≤ n := by omega
  have hab1 : a + 1 ≤ bj + 1 := by omega
  clear S hR hdk hbj
  go_enter Tryz.func83, Tryz.ntmps83
  obtain ⟨xi, hxi⟩ : ∃ x, x = dk[a]! := ⟨_, rfl⟩
  obtain ⟨xj, hxj⟩ : ∃ x, x = dk[p]! := ⟨_, rfl⟩
  have H2 := Lib.hid (HS.out.swap han hpn).drew
  have k1 := HS.out.cell han
  have k2 := HS.out.cell hpn
  have f1 := HS.out.froz han
  have f2 := HS.out.froz hpn
  obtain ⟨u, k3⟩ := HS.out.swap2 han hpn
  rw [← hxi, ← hxj] at H2
  rw [← hxi] at k1
  rw [← hxj] at k2 k3
  clear hxi hxj
  go_wp2_with (fail)
  go_region
  clear k1 k2 k3 f1 f2
  obtain ⟨dj, hdj⟩ : ∃ x, x = Sort.swp dk a p := ⟨_, rfl⟩
  rw [← hdj] at HR0 H2
  clear hdj HS
  go_wp2
  go_loopw [11, 12] (fun v11 v12 wr => ∃ (i j : Nat) (dk : Array Nat), v11 = .int .i64 (i : Int) ∧ v12 = .int .i64 (j : Int) ∧ a + 1 ≤ i ∧ i ≤ j + 1 ∧ j + 1 ≤ n ∧ Sd Ok B w0 Ts g n c Rs wr dk ∧ Sort.partEqLoop (ltc cf) a i j dk = R) (fun v11 v12 _ => (intOf v12 + 1 - intOf v11).toNat)
  case atStart => exact ⟨a + 1, bj, dj, by go_num, (by first | rfl | go_num), Nat.le_refl _, hab1, hbb, H2.out, HR0.out⟩
  case round =>
    obtain ⟨i0, j, dk, rfl, rfl, hai, hij, hjb, hs, heq⟩ := hrel
    have HK := Lib.hid hs
    have HE := Lib.hid heq
    clear hs heq H2 HR0
    obtain ⟨I, hI⟩ : ∃ I, I = Sort.scanUp (fun x => !ltc cf dk[a]! x) dk j i0 := ⟨_, rfl⟩
    obtain ⟨J, hJ⟩ : ∃ J, J = Sort.scanDown (fun x => ltc cf dk[a]! x) dk I j := ⟨_, rfl⟩
    have HQ : Hid (R = if I > J then (I, dk) else if h : (J - 1) + 1 - (I + 1) < j + 1 - i0 then Sort.partEqLoop (ltc cf) a (I + 1) (J - 1) (Sort.swp dk I J) else (I, dk)) := by
      show _ = _
      rw [← HE.out, Sort.partEqLoop]
      rw [hJ, hI]
    have HR1 : Hid (J < I → R = (I, dk)) := fun h => by rw [HQ.out, if_pos h]
    have HR2 : Hid (I ≤ J → i0 ≤ I → J ≤ j → R = Sort.partEqLoop (ltc cf) a (I + 1) (J - 1) (Sort.swp dk I J)) := fun h1 h2 h3 => by
      rw [HQ.out, if_neg (by omega), dif_pos (by omega)]
    have HI := Lib.hid hI.symm
    have HJ := Lib.hid hJ.symm
    clear hI hJ HQ HE
    go_wp2
    go_loopw [11] (fun vi ws => ∃ (i : Nat), vi = .int .i64 (i : Int) ∧ i0 ≤ i ∧ i ≤ j + 1 ∧ Sd Ok B w0 Ts g n c Rs ws dk ∧ Sort.scanUp (fun x => !ltc cf dk[a]! x) dk j i = I) (fun vi _ => j + 2 - (intOf vi).toNat)
    case atStart => exact ⟨i0, (by first | rfl | go_num), Nat.le_refl _, hij, HK.out, HI.out⟩
    case round =>
      clear hij
      obtain ⟨i, rfl, hi0, hij, hs, heq⟩ := hrel
      have HK := Lib.hid hs
      have HE := Lib.hid heq
      clear hs heq HI
      by_cases hle : i ≤ j
      · have hin : i < n := by omega
        have hgd : decide ((i : Int) ≤ (j : Int)) = true := decide_eq_true (by omega)
        obtain ⟨x, hx⟩ : ∃ x, x = dk[a]! := ⟨_, rfl⟩
        obtain ⟨y, hy⟩ : ∃ y, y = dk[i]! := ⟨_, rfl⟩
        obtain ⟨z, hz⟩ : ∃ z, z = cf x y := ⟨_, rfl⟩
        have ASK := Lib.hid (ask_at K HK.out han hin)
        have CX := Lib.hid (cell_at HK.out han)
        have CY := Lib.hid (cell_at HK.out hin)
        rw [← hx, ← hy, ← hz] at ASK
        rw [← hx] at CX
        rw [← hy] at CY
        have HIN : Hid (I = if ltc cf x y = false then Sort.scanUp (fun x => !ltc cf dk[a]! x) dk j (i + 1) else i) := by
          show _ = _
          rw [← HE.out, Sort.scanUp]
          simp only [← hx, ← hy]
          by_cases h : ltc cf x y = true
          · simp [hle, h]
          · simp [hle, h]
        clear HE
        by_cases hlt : ltc cf x y = true
        · have HT := Lib.hid (ltc_t hlt hz)
          have HEI : Hid (I = i) := by show _ = _; rw [HIN.out, if_neg (by simp [hlt])]
          have HA : Hid (i ≤ j → ltc cf dk[a]! dk[i]! = true) := by intro _; rw [← hx, ← hy]; exact hlt
          clear HIN hlt hz hx hy hle
          go_wp2_with (fail)
          refine lxX ?_; refine lxM (.int .i64 (i : Int)) rfl ?_; refine lxM (.int .i64 (j : Int)) rfl ?_; refine lxT (.tmp 31) (.tmp 32) (.int .i64 (i : Int)) (.int .i64 (j : Int)) (.bool true) (fun wx ρ hwx h0 h1 hc => leq_i rfl hgd ρ wx h0 h1) ?_; refine lxM (.bool true) rfl ?_; refine lxM (fvOf f bs cb) rfl ?_; refine lxM (.slice (some ⟨g, 0, none⟩) n c) rfl ?_; refine lxM (.int .i64 (a : Int)) rfl ?_; refine lxT (.tmp 36) (.tmp 37) (.slice (some ⟨g, 0, none⟩) n c) (.int .i64 (a : Int)) (.pointer (some ⟨g, a, none⟩)) (fun wx ρ hwx h0 h1 hc => idx_i rfl han ρ wx h0 h1) ?_; refine lxR (.tmp 38) (.pointer (some ⟨g, a, none⟩)) (iV x) (fun wx ρ hwx h0 hc => load_i rfl ρ (CX.out wx hwx) h0) ?_; refine lxM (.slice (some ⟨g, 0, none⟩) n c) rfl ?_; refine lxM (.int .i64 (i : Int)) rfl ?_; refine lxT (.tmp 40) (.tmp 41) (.slice (some ⟨g, 0, none⟩) n c) (.int .i64 (i : Int)) (.pointer (some ⟨g, i, none⟩)) (fun wx ρ hwx h0 h1 hc => idx_i rfl hin ρ wx h0 h1) ?_; refine lxR (.tmp 42) (.pointer (some ⟨g, i, none⟩)) (iV y) (fun wx ρ hwx h0 hc => load_i rfl ρ (CY.out wx hwx) h0) ?_
          refine wpL_val (.int .i64 z) [iV x, iV y] (by kernel_rfl) (by kernel_rfl) rfl (by kernel_rfl) (by kernel_rfl) (by kernel_rfl) (by kernel_rfl) ENT.out (fun wx hwx => ASK.out wx hwx) ?_
          refine lxR (.tmp 44) (.int .i64 z) (.bool true) (fun wx ρ hwx h0 hc => lss_i rfl HT.out ρ wx h0 (hc _)) ?_; refine lxR (.tmp 45) (.bool true) (.bool false) (fun wx ρ hwx h0 hc => not_b rfl rfl ρ wx h0) ?_; refine lxB (.tmp 34) (.tmp 46) (.bool true) (.bool false) (.bool false) ?_
          refine wpL_end (by kernel_rfl) (fun w1 hw1 => ?_)
          simp only [FinL, setL, List.set_cons_zero, List.set_cons_succ]
          have H1 := Lib.hid (HK.out.later hw1)
          clear ASK CX CY HT
          have HJ0 : Hid (Sort.scanDown (fun x => ltc cf dk[a]! x) dk i j = J) := by have e := HJ.out; rw [HEI.out] at e; exact e
          have hi1 : 1 ≤ i := by omega
          clear HJ
          go_wp2
          go_loopw [12] (fun vj ws => ∃ (j1 : Nat), vj = .int .i64 (j1 : Int) ∧ j1 ≤ j ∧ i ≤ j1 + 1 ∧ Sd Ok B w0 Ts g n c Rs ws dk ∧ Sort.scanDown (fun x => ltc cf dk[a]! x) dk i j1 = J) (fun vj _ => (intOf vj).toNat)
          case atStart => exact ⟨j, (by first | rfl | go_num), Nat.le_refl _, hij, H1.out, HJ0.out⟩
          case round =>
            obtain ⟨jd, rfl, hjj, hij1, hs, heq⟩ := hrel
            have HK := Lib.hid hs
            have HE := Lib.hid heq
            clear hs heq HJ0 hij H1
            by_cases hle2 : i ≤ jd
            · have hjn : jd < n := by omega
              have hgd : decide ((i : Int) ≤ (jd : Int)) = true := decide_eq_true (by omega)
              obtain ⟨k, hjk⟩ : ∃ k, jd = k + 1 := ⟨jd - 1, by omega⟩
              obtain ⟨x, hx⟩ : ∃ x, x = dk[a]! := ⟨_, rfl⟩
              obtain ⟨y, hy⟩ : ∃ y, y = dk[jd]! := ⟨_, rfl⟩
              obtain ⟨z, hz⟩ : ∃ z, z = cf x y := ⟨_, rfl⟩
              have ASK := Lib.hid (ask_at K HK.out han hjn)
              have CX := Lib.hid (cell_at HK.out han)
              have CY := Lib.hid (cell_at HK.out hjn)
              rw [← hx, ← hy, ← hz] at ASK
              rw [← hx] at CX
              rw [← hy] at CY
              have HIN : Hid (J = if ltc cf x y = true then Sort.scanDown (fun x => ltc cf dk[a]! x) dk i k else jd) := by
                show _ = _
                rw [← HE.out, hjk, Sort.scanDown, ← hjk]
                simp only [← hx, ← hy]
                by_cases h : ltc cf x y = true
                · simp [hle2, h]
                · simp [hle2, h]
              have HJK := Lib.hid hjk
              clear HE hjk
              by_cases hlt : ltc cf x y = true
              · have HT := Lib.hid (ltc_t hlt hz)
                have HE2 : Hid (Sort.scanDown (fun x => ltc cf dk[a]! x) dk i k = J) := by show _ = _; rw [HIN.out, if_pos hlt]
                clear HIN hlt hz hx hy
                go_wp2_with (fail)
                refine lxX ?_; refine lxM (.int .i64 (i : Int)) rfl ?_; refine lxM (.int .i64 (jd : Int)) rfl ?_; refine lxT (.tmp 50) (.tmp 51) (.int .i64 (i : Int)) (.int .i64 (jd : Int)) (.bool true) (fun wx ρ hwx h0 h1 hc => leq_i rfl hgd ρ wx h0 h1) ?_; refine lxM (.bool true) rfl ?_; refine lxM (fvOf f bs cb) rfl ?_; refine lxM (.slice (some ⟨g, 0, none⟩) n c) rfl ?_; refine lxM (.int .i64 (a : Int)) rfl ?_; refine lxT (.tmp 55) (.tmp 56) (.slice (some ⟨g, 0, none⟩) n c) (.int .i64 (a : Int)) (.pointer (some ⟨g, a, none⟩)) (fun wx ρ hwx h0 h1 hc => idx_i rfl han ρ wx h0 h1) ?_; refine lxR (.tmp 57) (.pointer (some ⟨g, a, none⟩)) (iV x) (fun wx ρ hwx h0 hc => load_i rfl ρ (CX.out wx hwx) h0) ?_; refine lxM (.slice (some ⟨g, 0, none⟩) n c) rfl ?_; refine lxM (.int .i64 (jd : Int)) rfl ?_; refine lxT (.tmp 59) (.tmp 60) (.slice (some ⟨g, 0, none⟩) n c) (.int .i64 (jd : Int)) (.pointer (some ⟨g, jd, none⟩)) (fun wx ρ hwx h0 h1 hc => idx_i rfl hjn ρ wx h0 h1) ?_; refine lxR (.tmp 61) (.pointer (some ⟨g, jd, none⟩)) (iV y) (fun wx ρ hwx h0 hc => load_i rfl ρ (CY.out wx hwx) h0) ?_
                refine wpL_val (.int .i64 z) [iV x, iV y] (by kernel_rfl) (by kernel_rfl) rfl (by kernel_rfl) (by kernel_rfl) (by kernel_rfl) (by kernel_rfl) ENT.out (fun wx hwx => ASK.out wx hwx) ?_
                refine lxR (.tmp 63) (.int .i64 z) (.bool true) (fun wx ρ hwx h0 hc => lss_i rfl HT.out ρ wx h0 (hc _)) ?_; refine lxB (.tmp 53) (.tmp 64) (.bool true) (.bool true) (.bool true) ?_
                refine wpL_end (by kernel_rfl) (fun w1 hw1 => ?_)
                simp only [FinL, setL, List.set_cons_zero, List.set_cons_succ]
                have H1 := Lib.hid (HK.out.later hw1)
                have hjkI : (jd : Int) - 1 = (k : Int) := by have := HJK.out; omega
                clear ASK CX CY
                go_wp2
                go_roundw
                case rel => exact ⟨k, (by first | rfl | go_num), by have := HJK.out; omega, by have := HJK.out; omega, H1.out, HE2.out⟩
                case measure => have := HJK.out; simp [intOf]; omega
              · have hlf : ltc cf x y = false := by simpa using hlt
                have HT := Lib.hid (ltc_t hlf hz)
                have HEJ : Hid (J = jd) := by show _ = _; rw [HIN.out, if_neg hlt]
                have hne : i < jd := by
                  rcases Nat.lt_or_eq_of_le hle2 with h | h
                  · exact h
                  · exfalso; have ha := HA.out (by omega); rw [h] at ha; rw [← hx, ← hy] at ha; rw [ha] at hlf; cases hlf
                clear HIN hlt hlf hz hx hy hle2
                go_wp2_with (fail)
                refine lxX ?_; refine lxM (.int .i64 (i : Int)) rfl ?_; refine lxM (.int .i64 (jd : Int)) rfl ?_; refine lxT (.tmp 50) (.tmp 51) (.int .i64 (i : Int)) (.int .i64 (jd : Int)) (.bool true) (fun wx ρ hwx h0 h1 hc => leq_i rfl hgd ρ wx h0 h1) ?_; refine lxM (.bool true) rfl ?_; refine lxM (fvOf f bs cb) rfl ?_; refine lxM (.slice (some ⟨g, 0, none⟩) n c) rfl ?_; refine lxM (.int .i64 (a : Int)) rfl ?_; refine lxT (.tmp 55) (.tmp 56) (.slice (some ⟨g, 0, none⟩) n c) (.int .i64 (a : Int)) (.pointer (some ⟨g, a, none⟩)) (fun wx ρ hwx h0 h1 hc => idx_i rfl han ρ wx h0 h1) ?_; refine lxR (.tmp 57) (.pointer (some ⟨g, a, none⟩)) (iV x) (fun wx ρ hwx h0 hc => load_i rfl ρ (CX.out wx hwx) h0) ?_; refine lxM (.slice (some ⟨g, 0, none⟩) n c) rfl ?_; refine lxM (.int .i64 (jd : Int)) rfl ?_; refine lxT (.tmp 59) (.tmp 60) (.slice (some ⟨g, 0, none⟩) n c) (.int .i64 (jd : Int)) (.pointer (some ⟨g, jd, none⟩)) (fun wx ρ hwx h0 h1 hc => idx_i rfl hjn ρ wx h0 h1) ?_; refine lxR (.tmp 61) (.pointer (some ⟨g, jd, none⟩)) (iV y) (fun wx ρ hwx h0 hc => load_i rfl ρ (CY.out wx hwx) h0) ?_
                refine wpL_val (.int .i64 z) [iV x, iV y] (by kernel_rfl) (by kernel_rfl) rfl (by kernel_rfl) (by kernel_rfl) (by kernel_rfl) (by kernel_rfl) ENT.out (fun wx hwx => ASK.out wx hwx) ?_
                refine lxR (.tmp 63) (.int .i64 z) (.bool false) (fun wx ρ hwx h0 hc => lss_i rfl HT.out ρ wx h0 (hc _)) ?_; refine lxB (.tmp 53) (.tmp 64) (.bool true) (.bool false) (.bool false) ?_
                refine wpL_end (by kernel_rfl) (fun w1 hw1 => ?_)
                simp only [FinL, setL, List.set_cons_zero, List.set_cons_succ]
                have H1 := Lib.hid (HK.out.later hw1)
                clear ASK CX CY HT hgd
                have hgI : ¬ (jd : Int) < (i : Int) := by omega
                have hin : i < n := by omega
                have HRR : Hid (Sort.partEqLoop (ltc cf) a (i + 1) (jd - 1) (Sort.swp dk i jd) = R) := by show _ = _; rw [HR2.out (by rw [HEI.out, HEJ.out]; omega) (by rw [HEI.out]; omega) (by rw [HEJ.out]; omega), HEI.out, HEJ.out]
                clear HEI HEJ HR1 HR2
                obtain ⟨xi, hxi⟩ : ∃ x, x = dk[i]! := ⟨_, rfl⟩
                obtain ⟨xj, hxj⟩ : ∃ x, x = dk[jd]! := ⟨_, rfl⟩
                have H2 := Lib.hid (H1.out.swap hin hjn).drew
                have k1 := H1.out.cell hin
                have k2 := H1.out.cell hjn
                have f1 := H1.out.froz hin
                have f2 := H1.out.froz hjn
                obtain ⟨u, k3⟩ := H1.out.swap2 hin hjn
                rw [← hxi, ← hxj] at H2
                rw [← hxi] at k1
                rw [← hxj] at k2 k3
                clear hxi hxj
                go_wp2_with (fail)
                go_region
                clear k1 k2 k3 f1 f2
                obtain ⟨k9, hk9⟩ : ∃ k, jd = k + 1 := ⟨jd - 1, by omega⟩
                have hk9I : (jd : Int) - 1 = (k9 : Int) := by omega
                have HK9 := Lib.hid hk9
                clear hk9
                go_wp2
                go_roundw
                case rel => exact ⟨i + 1, k9, Sort.swp dk i jd, by go_num, (by first | rfl | go_num), by omega, by have := HK9.out; omega, by have := HK9.out; omega, H2.out, by have := HRR.out; rw [HK9.out] at this ⊢; exact this⟩
                case measure => have := HK9.out; simp [intOf]; omega
            · have hgd : decide ((i : Int) ≤ (jd : Int)) = false := decide_eq_false (by omega)
              have HEJ : Hid (J = jd) := by
                show _ = _
                rw [← HE.out]
                cases jd with
                | zero => rfl
                | succ k => rw [Sort.scanDown, if_neg (by simp [hle2])]
              have hgt : jd < i := by omega
              clear HE hle2
              go_wp2_with (fail)
              refine lxX ?_; refine lxM (.int .i64 (i : Int)) rfl ?_; refine lxM (.int .i64 (jd : Int)) rfl ?_; refine lxT (.tmp 50) (.tmp 51) (.int .i64 (i : Int)) (.int .i64 (jd : Int)) (.bool false) (fun wx ρ hwx h0 h1 hc => leq_i rfl hgd ρ wx h0 h1) ?_; refine lxM (.bool false) rfl ?_; refine lxS ?_; refine lxS ?_; refine lxS ?_; refine lxS ?_; refine lxS ?_; refine lxS ?_; refine lxS ?_; refine lxS ?_; refine lxS ?_; refine lxS ?_; refine lxS ?_; refine lxR (.tmp 53) (.bool false) (.bool false) (fun wx ρ hwx h0 hc => by simp [go_sem, h0, hc]) ?_
              refine wpL_end (by kernel_rfl) (fun w1 hw1 => ?_)
              simp only [FinL, setL, List.set_cons_zero, List.set_cons_succ]
              have H1 := Lib.hid (HK.out.later hw1)
              clear hgd
              have hgI : (jd : Int) < (i : Int) := by omega
              have HRR : Hid (R = (i, dk)) := by show _ = _; rw [HR1.out (by rw [HEI.out, HEJ.out]; exact hgt), HEI.out]
              go_wp2
              go_ret
              rw [HRR.out]
              exact ⟨rfl, H1.out⟩
        · have hlf : ltc cf x y = false := by simpa using hlt
          have HT := Lib.hid (ltc_t hlf hz)
          have HE2 : Hid (Sort.scanUp (fun x => !ltc cf dk[a]! x) dk j (i + 1) = I) := by show _ = _; rw [HIN.out, if_pos hlf]
          clear HIN hlt hlf hz hx hy
          go_wp2_with (fail)
          refine lxX ?_; refine lxM (.int .i64 (i : Int)) rfl ?_; refine lxM (.int .i64 (j : Int)) rfl ?_; refine lxT (.tmp 31) (.tmp 32) (.int .i64 (i : Int)) (.int .i64 (j : Int)) (.bool true) (fun wx ρ hwx h0 h1 hc => leq_i rfl hgd ρ wx h0 h1) ?_; refine lxM (.bool true) rfl ?_; refine lxM (fvOf f bs cb) rfl ?_; refine lxM (.slice (some ⟨g, 0, none⟩) n c) rfl ?_; refine lxM (.int .i64 (a : Int)) rfl ?_; refine lxT (.tmp 36) (.tmp 37) (.slice (some ⟨g, 0, none⟩) n c) (.int .i64 (a : Int)) (.pointer (some ⟨g, a, none⟩)) (fun wx ρ hwx h0 h1 hc => idx_i rfl han ρ wx h0 h1) ?_; refine lxR (.tmp 38) (.pointer (some ⟨g, a, none⟩)) (iV x) (fun wx ρ hwx h0 hc => load_i rfl ρ (CX.out wx hwx) h0) ?_; refine lxM (.slice (some ⟨g, 0, none⟩) n c) rfl ?_; refine lxM (.int .i64 (i : Int)) rfl ?_; refine lxT (.tmp 40) (.tmp 41) (.slice (some ⟨g, 0, none⟩) n c) (.int .i64 (i : Int)) (.pointer (some ⟨g, i, none⟩)) (fun wx ρ hwx h0 h1 hc => idx_i rfl hin ρ wx h0 h1) ?_; refine lxR (.tmp 42) (.pointer (some ⟨g, i, none⟩)) (iV y) (fun wx ρ hwx h0 hc => load_i rfl ρ (CY.out wx hwx) h0) ?_
          refine wpL_val (.int .i64 z) [iV x, iV y] (by kernel_rfl) (by kernel_rfl) rfl (by kernel_rfl) (by kernel_rfl) (by kernel_rfl) (by kernel_rfl) ENT.out (fun wx hwx => ASK.out wx hwx) ?_
          refine lxR (.tmp 44) (.int .i64 z) (.bool false) (fun wx ρ hwx h0 hc => lss_i rfl HT.out ρ wx h0 (hc _)) ?_; refine lxR (.tmp 45) (.bool false) (.bool true) (fun wx ρ hwx h0 hc => not_b rfl rfl ρ wx h0) ?_; refine lxB (.tmp 34) (.tmp 46) (.bool true) (.bool true) (.bool true) ?_
          refine wpL_end (by kernel_rfl) (fun w1 hw1 => ?_)
          simp only [FinL, setL, List.set_cons_zero, List.set_cons_succ]
          have H1 := Lib.hid (HK.out.later hw1)
          clear ASK CX CY
          go_wp2
          go_roundw
          case rel => exact ⟨i + 1, by go_num, by omega, by omega, H1.out, HE2.out⟩
          case measure => simp [intOf]; omega
      · have hgd : decide ((i : Int) ≤ (j : Int)) = false := decide_eq_false (by omega)
        have HEI : Hid (I = i) := by show _ = _; rw [← HE.out, Sort.scanUp, if_neg (by simp [hle])]
        have HA : Hid (i ≤ j → ltc cf dk[a]! dk[i]! = true) := fun h => absurd h hle
        clear HE
        go_wp2_with (fail)
        refine lxX ?_; refine lxM (.int .i64 (i : Int)) rfl ?_; refine lxM (.int .i64 (j : Int)) rfl ?_; refine lxT (.tmp 31) (.tmp 32) (.int .i64 (i : Int)) (.int .i64 (j : Int)) (.bool false) (fun wx ρ hwx h0 h1 hc => leq_i rfl hgd ρ wx h0 h1) ?_; refine lxM (.bool false) rfl ?_; refine lxS ?_; refine lxS ?_; refine lxS ?_; refine lxS ?_; refine lxS ?_; refine lxS ?_; refine lxS ?_; refine lxS ?_; refine lxS ?_; refine lxS ?_; refine lxS ?_; refine lxS ?_; refine lxR (.tmp 34) (.bool false) (.bool false) (fun wx ρ hwx h0 hc => by simp [go_sem, h0, hc]) ?_
        refine wpL_end (by kernel_rfl) (fun w1 hw1 => ?_)
        simp only [FinL, setL, List.set_cons_zero, List.set_cons_succ]
        have H1 := Lib.hid (HK.out.later hw1)
        clear hle
        have HJ0 : Hid (Sort.scanDown (fun x => ltc cf dk[a]! x) dk i j = J) := by have e := HJ.out; rw [HEI.out] at e; exact e
        have hi1 : 1 ≤ i := by omega
        clear HJ
        go_wp2
        go_loopw [12] (fun vj ws => ∃ (j1 : Nat), vj = .int .i64 (j1 : Int) ∧ j1 ≤ j ∧ i ≤ j1 + 1 ∧ Sd Ok B w0 Ts g n c Rs ws dk ∧ Sort.scanDown (fun x => ltc cf dk[a]! x) dk i j1 = J) (fun vj _ => (intOf vj).toNat)
        case atStart => exact ⟨j, (by first | rfl | go_num), Nat.le_refl _, hij, H1.out, HJ0.out⟩
        case round =>
          obtain ⟨jd, rfl, hjj, hij1, hs, heq⟩ := hrel
          have HK := Lib.hid hs
          have HE := Lib.hid heq
          clear hs heq HJ0 hij H1
          by_cases hle2 : i ≤ jd
          · have hjn : jd < n := by omega
            have hgd : decide ((i : Int) ≤ (jd : Int)) = true := decide_eq_true (by omega)
            obtain ⟨k, hjk⟩ : ∃ k, jd = k + 1 := ⟨jd - 1, by omega⟩
            obtain ⟨x, hx⟩ : ∃ x, x = dk[a]! := ⟨_, rfl⟩
            obtain ⟨y, hy⟩ : ∃ y, y = dk[jd]! := ⟨_, rfl⟩
            obtain ⟨z, hz⟩ : ∃ z, z = cf x y := ⟨_, rfl⟩
            have ASK := Lib.hid (ask_at K HK.out han hjn)
            have CX := Lib.hid (cell_at HK.out han)
            have CY := Lib.hid (cell_at HK.out hjn)
            rw [← hx, ← hy, ← hz] at ASK
            rw [← hx] at CX
            rw [← hy] at CY
            have HIN : Hid (J = if ltc cf x y = true then Sort.scanDown (fun x => ltc cf dk[a]! x) dk i k else jd) := by
              show _ = _
              rw [← HE.out, hjk, Sort.scanDown, ← hjk]
              simp only [← hx, ← hy]
              by_cases h : ltc cf x y = true
              · simp [hle2, h]
              · simp [hle2, h]
            have HJK := Lib.hid hjk
            clear HE hjk
            by_cases hlt : ltc cf x y = true
            · have HT := Lib.hid (ltc_t hlt hz)
              have HE2 : Hid (Sort.scanDown (fun x => ltc cf dk[a]! x) dk i k = J) := by show _ = _; rw [HIN.out, if_pos hlt]
              clear HIN hlt hz hx hy
              go_wp2_with (fail)
              refine lxX ?_; refine lxM (.int .i64 (i : Int)) rfl ?_; refine lxM (.int .i64 (jd : Int)) rfl ?_; refine lxT (.tmp 50) (.tmp 51) (.int .i64 (i : Int)) (.int .i64 (jd : Int)) (.bool true) (fun wx ρ hwx h0 h1 hc => leq_i rfl hgd ρ wx h0 h1) ?_; refine lxM (.bool true) rfl ?_; refine lxM (fvOf f bs cb) rfl ?_; refine lxM (.slice (some ⟨g, 0, none⟩) n c) rfl ?_; refine lxM (.int .i64 (a : Int)) rfl ?_; refine lxT (.tmp 55) (.tmp 56) (.slice (some ⟨g, 0, none⟩) n c) (.int .i64 (a : Int)) (.pointer (some ⟨g, a, none⟩)) (fun wx ρ hwx h0 h1 hc => idx_i rfl han ρ wx h0 h1) ?_; refine lxR (.tmp 57) (.pointer (some ⟨g, a, none⟩)) (iV x) (fun wx ρ hwx h0 hc => load_i rfl ρ (CX.out wx hwx) h0) ?_; refine lxM (.slice (some ⟨g, 0, none⟩) n c) rfl ?_; refine lxM (.int .i64 (jd : Int)) rfl ?_; refine lxT (.tmp 59) (.tmp 60) (.slice (some ⟨g, 0, none⟩) n c) (.int .i64 (jd : Int)) (.pointer (some ⟨g, jd, none⟩)) (fun wx ρ hwx h0 h1 hc => idx_i rfl hjn ρ wx h0 h1) ?_; refine lxR (.tmp 61) (.pointer (some ⟨g, jd, none⟩)) (iV y) (fun wx ρ hwx h0 hc => load_i rfl ρ (CY.out wx hwx) h0) ?_
              refine wpL_val (.int .i64 z) [iV x, iV y] (by kernel_rfl) (by kernel_rfl) rfl (by kernel_rfl) (by kernel_rfl) (by kernel_rfl) (by kernel_rfl) ENT.out (fun wx hwx => ASK.out wx hwx) ?_
              refine lxR (.tmp 63) (.int .i64 z) (.bool true) (fun wx ρ hwx h0 hc => lss_i rfl HT.out ρ wx h0 (hc _)) ?_; refine lxB (.tmp 53) (.tmp 64) (.bool true) (.bool true) (.bool true) ?_
              refine wpL_end (by kernel_rfl) (fun w1 hw1 => ?_)
              simp only [FinL, setL, List.set_cons_zero, List.set_cons_succ]
              have H1 := Lib.hid (HK.out.later hw1)
              have hjkI : (jd : Int) - 1 = (k : Int) := by have := HJK.out; omega
              clear ASK CX CY
              go_wp2
              go_roundw
              case rel => exact ⟨k, (by first | rfl | go_num), by have := HJK.out; omega, by have := HJK.out; omega, H1.out, HE2.out⟩
              case measure => have := HJK.out; simp [intOf]; omega
            · have hlf : ltc cf x y = false := by simpa using hlt
              have HT := Lib.hid (ltc_t hlf hz)
              have HEJ : Hid (J = jd) := by show _ = _; rw [HIN.out, if_neg hlt]
              have hne : i < jd := by
                rcases Nat.lt_or_eq_of_le hle2 with h | h
                · exact h
                · exfalso; have ha := HA.out (by omega); rw [h] at ha; rw [← hx, ← hy] at ha; rw [ha] at hlf; cases hlf
              clear HIN hlt hlf hz hx hy hle2
              go_wp2_with (fail)
              refine lxX ?_; refine lxM (.int .i64 (i : Int)) rfl ?_; refine lxM (.int .i64 (jd : Int)) rfl ?_; refine lxT (.tmp 50) (.tmp 51) (.int .i64 (i : Int)) (.int .i64 (jd : Int)) (.bool true) (fun wx ρ hwx h0 h1 hc => leq_i rfl hgd ρ wx h0 h1) ?_; refine lxM (.bool true) rfl ?_; refine lxM (fvOf f bs cb) rfl ?_; refine lxM (.slice (some ⟨g, 0, none⟩) n c) rfl ?_; refine lxM (.int .i64 (a : Int)) rfl ?_; refine lxT (.tmp 55) (.tmp 56) (.slice (some ⟨g, 0, none⟩) n c) (.int .i64 (a : Int)) (.pointer (some ⟨g, a, none⟩)) (fun wx ρ hwx h0 h1 hc => idx_i rfl han ρ wx h0 h1) ?_; refine lxR (.tmp 57) (.pointer (some ⟨g, a, none⟩)) (iV x) (fun wx ρ hwx h0 hc => load_i rfl ρ (CX.out wx hwx) h0) ?_; refine lxM (.slice (some ⟨g, 0, none⟩) n c) rfl ?_; refine lxM (.int .i64 (jd : Int)) rfl ?_; refine lxT (.tmp 59) (.tmp 60) (.slice (some ⟨g, 0, none⟩) n c) (.int .i64 (jd : Int)) (.pointer (some ⟨g, jd, none⟩)) (fun wx ρ hwx h0 h1 hc => idx_i rfl hjn ρ wx h0 h1) ?_; refine lxR (.tmp 61) (.pointer (some ⟨g, jd, none⟩)) (iV y) (fun wx ρ hwx h0 hc => load_i rfl ρ (CY.out wx hwx) h0) ?_
              refine wpL_val (.int .i64 z) [iV x, iV y] (by kernel_rfl) (by kernel_rfl) rfl (by kernel_rfl) (by kernel_rfl) (by kernel_rfl) (by kernel_rfl) ENT.out (fun wx hwx => ASK.out wx hwx) ?_
              refine lxR (.tmp 63) (.int .i64 z) (.bool false) (fun wx ρ hwx h0 hc => lss_i rfl HT.out ρ wx h0 (hc _)) ?_; refine lxB (.tmp 53) (.tmp 64) (.bool true) (.bool false) (.bool false) ?_
              refine wpL_end (by kernel_rfl) (fun w1 hw1 => ?_)
              simp only [FinL, setL, List.set_cons_zero, List.set_cons_succ]
              have H1 := Lib.hid (HK.out.later hw1)
              clear ASK CX CY HT hgd
              have hgI : ¬ (jd : Int) < (i : Int) := by omega
              have hin : i < n := by omega
              have HRR : Hid (Sort.partEqLoop (ltc cf) a (i + 1) (jd - 1) (Sort.swp dk i jd) = R) := by show _ = _; rw [HR2.out (by rw [HEI.out, HEJ.out]; omega) (by rw [HEI.out]; omega) (by rw [HEJ.out]; omega), HEI.out, HEJ.out]
              clear HEI HEJ HR1 HR2
              obtain ⟨xi, hxi⟩ : ∃ x, x = dk[i]! := ⟨_, rfl⟩
              obtain ⟨xj, hxj⟩ : ∃ x, x = dk[jd]! := ⟨_, rfl⟩
              have H2 := Lib.hid (H1.out.swap hin hjn).drew
              have k1 := H1.out.cell hin
              have k2 := H1.out.cell hjn
              have f1 := H1.out.froz hin
              have f2 := H1.out.froz hjn
              obtain ⟨u, k3⟩ := H1.out.swap2 hin hjn
              rw [← hxi, ← hxj] at H2
              rw [← hxi] at k1
              rw [← hxj] at k2 k3
              clear hxi hxj
              go_wp2_with (fail)
              go_region
              clear k1 k2 k3 f1 f2
              obtain ⟨k9, hk9⟩ : ∃ k, jd = k + 1 := ⟨jd - 1, by omega⟩
              have hk9I : (jd : Int) - 1 = (k9 : Int) := by omega
              have HK9 := Lib.hid hk9
              clear hk9
              go_wp2
              go_roundw
              case rel => exact ⟨i + 1, k9, Sort.swp dk i jd, by go_num, (by first | rfl | go_num), by omega, by have := HK9.out; omega, by have := HK9.out; omega, H2.out, by have := HRR.out; rw [HK9.out] at this ⊢; exact this⟩
              case measure => have := HK9.out; simp [intOf]; omega
          · have hgd : decide ((i : Int) ≤ (jd : Int)) = false := decide_eq_false (by omega)
            have HEJ : Hid (J = jd) := by
              show _ = _
              rw [← HE.out]
              cases jd with
              | zero => rfl
              | succ k => rw [Sort.scanDown, if_neg (by simp [hle2])]
            have hgt : jd < i := by omega
            clear HE hle2
            go_wp2_with (fail)
            refine lxX ?_; refine lxM (.int .i64 (i : Int)) rfl ?_; refine lxM (.int .i64 (jd : Int)) rfl ?_; refine lxT (.tmp 50) (.tmp 51) (.int .i64 (i : Int)) (.int .i64 (jd : Int)) (.bool false) (fun wx ρ hwx h0 h1 hc => leq_i rfl hgd ρ wx h0 h1) ?_; refine lxM (.bool false) rfl ?_; refine lxS ?_; refine lxS ?_; refine lxS ?_; refine lxS ?_; refine lxS ?_; refine lxS ?_; refine lxS ?_; refine lxS ?_; refine lxS ?_; refine lxS ?_; refine lxS ?_; refine lxR (.tmp 53) (.bool false) (.bool false) (fun wx ρ hwx h0 hc => by simp [go_sem, h0, hc]) ?_
            refine wpL_end (by kernel_rfl) (fun w1 hw1 => ?_)
            simp only [FinL, setL, List.set_cons_zero, List.set_cons_succ]
            have H1 := Lib.hid (HK.out.later hw1)
            clear hgd
            have hgI : (jd : Int) < (i : Int) := by omega
            have HRR : Hid (R = (i, dk)) := by show _ = _; rw [HR1.out (by rw [HEI.out, HEJ.out]; exact hgt), HEI.out]
            go_wp2
            go_ret
            rw [HRR.out]
            exact ⟨rfl, H1.out⟩
end
end Srt
end Go.Proofs.YtmdphcebmgcdbaaGreat
end
