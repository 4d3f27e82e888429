/- Merged: SrtC SrtD SrtK SrtE -/
import Derived.Sort.LotD4
import Derived.Lib.BitFns
import Derived.Lib.Small
import Derived.Sort.Walk7a
import Derived.Sort.Walk7
import Derived.Sort.WalkA14
import Derived.Test.YtlgfddpgmpabcaaQ4
section
namespace Go.Proofs.Ytlgfddpgmpabcaa
open Go.RowKit Go.Own
namespace Srt
section
variable {f : FuncId} {bs cb : Array Value} {cf : Nat → Nat → Int} {Ok : Nat → Prop} {B : Nat} {w0 w : World} {Ts Rs : List Asn} {g n c : Nat} {d : Array Nat}
theorem sift_at (lt : Nat → Nat → Bool) (hi first root c1 c2 r1 e1 e2 : Nat) (d : Array Nat) (h1 : c1 = 2 * root + 1) (h2 : c2 = c1 + 1) (hr : r1 = first + root) (he1 : e1 = first + c1) (he2 : e2 = e1 + 1) (hlt : c1 < hi) :
    Sort.siftDown lt hi first root d = if (decide (c2 < hi) && lt d[e1]! d[e2]!) = true then (if lt d[r1]! d[e2]! = true then Sort.siftDown lt hi first c2 (Sort.swp d r1 e2) else d) else if lt d[r1]! d[e1]! = true then Sort.siftDown lt hi first c1 (Sort.swp d r1 e1) else d := by
  subst h1 h2 hr he1 he2
  rw [Sort.siftDown, dif_neg (by omega)]
  have e : first + (2 * root + 2) = first + (2 * root + 1) + 1 := by omega
  have e' : 2 * root + 1 + 1 = 2 * root + 2 := by omega
  rw [e, e']
  by_cases h1 : (decide (2 * root + 2 < hi) && lt d[first + (2 * root + 1)]! d[first + (2 * root + 1) + 1]!) = true
  · have h1' := h1
    simp only [Bool.and_eq_true, decide_eq_true_eq] at h1'
    rw [if_pos h1, if_pos h1, dif_pos h1'.1]
    by_cases h2 : lt d[first + root]! d[first + (2 * root + 1) + 1]! = true
    · rw [if_pos h2, if_neg (by simp [h2])]
    · rw [if_neg h2, if_pos (by simpa using h2)]
  · rw [if_neg h1, if_neg h1]
    by_cases h2 : lt d[first + root]! d[first + (2 * root + 1)]! = true
    · rw [if_pos h2, if_neg (by simp [h2])]
    · rw [if_neg h2, if_pos (by simpa using h2)]
set_option maxHeartbeats 4000000 in
theorem sift_any (K : Cmp f bs cb cf Ok B w0 Ts) (S : Sd Ok B w0 Ts g n c Rs w d) (lo hi first : Nat) (hlo : lo ≤ n) (hh : first + hi ≤ n) (hn : n ≤ 100000) :
    Calls Try.prog 65 #[.slice (some ⟨g, 0, none⟩) n c, .int .i64 (lo : Int), .int .i64 (hi : Int), .int .i64 (first : Int), fvOf f bs cb] w fun e w' => e = .returned (.tuple #[]) ∧ Sd Ok B w0 Ts g n c Rs w' (Sort.siftDown (ltc cf) hi first lo d) := by
  have HS := Lib.hid S
  have ENT := Lib.hid K.ent
  obtain ⟨R, hR⟩ : ∃ R, R = Sort.siftDown (ltc cf) hi first lo d := ⟨_, rfl⟩
  rw [← hR]
  have HR0 := Lib.hid hR.symm
  clear S hR
  go_enter Try.func65, Try.ntmps65
  go_wp2
  go_loopw [10] (fun v10 wr => ∃ (root : Nat) (dk : Array Nat), v10 = .int .i64 (root : Int) ∧ root ≤ n ∧ Sd Ok B w0 Ts g n c Rs wr dk ∧ Sort.siftDown (ltc cf) hi first root dk = R) (fun v10 _ => n + 1 - (intOf v10).toNat)
  case atStart => exact ⟨lo, d, rfl, hlo, HS.out, HR0.out⟩
  case round =>
    obtain ⟨root, dk, rfl, hrn, hs, heq⟩ := hrel
    have HK := Lib.hid hs
    have HE := Lib.hid heq
    clear hs heq HS HR0
    obtain ⟨c1, hc1⟩ : ∃ x, x = 2 * root + 1 := ⟨_, rfl⟩
    have hc12 : 2 * (root : Int) + 1 = (c1 : Int) := by omega
    have hc1b : c1 ≤ 200001 := by omega
    by_cases hge : hi ≤ c1
    · have HE2 : Hid (R = dk) := by show _ = _; rw [← HE.out, Sort.siftDown, dif_pos (by omega)]
      have hge2 : (hi : Int) ≤ (c1 : Int) := by omega
      clear HE hc1
      go_wp2
      go_end0
      rw [HE2.out]
      exact ⟨rfl, HK.out⟩
    · have hge2 : ¬ (hi : Int) ≤ (c1 : Int) := by omega
      obtain ⟨c2, hc2⟩ : ∃ x, x = c1 + 1 := ⟨_, rfl⟩
      obtain ⟨r1, hr1⟩ : ∃ x, x = first + root := ⟨_, rfl⟩
      obtain ⟨e1, he1⟩ : ∃ x, x = first + c1 := ⟨_, rfl⟩
      obtain ⟨e2, he2⟩ : ∃ x, x = e1 + 1 := ⟨_, rfl⟩
      have hr1n : r1 < n := by omega
      have he1n : e1 < n := by omega
      have HIN0 := Lib.hid (HE.out.symm.trans (sift_at (ltc cf) hi first root c1 c2 r1 e1 e2 dk hc1 hc2 hr1 he1 he2 (by omega)))
      have HC1 := Lib.hid hc1
      have HC2 := Lib.hid hc2
      have HR1 := Lib.hid hr1
      have HE1 := Lib.hid he1
      have HEE := Lib.hid he2
      have HE22 : Hid (e2 = first + c2) := by show _ = _; omega
      have he1b : e1 ≤ 500000 := by omega
      have he2b : e2 ≤ 500000 := by omega
      have hc2b : c2 ≤ 500000 := by omega
      have hr1b : r1 ≤ 500000 := by omega
      have he2n0 : c2 < hi → e2 < n := by intro h; omega
      clear HE hc1 hc2 hr1 he1 he2
      by_cases hg2 : c2 < hi
      · have he2n : e2 < n := he2n0 hg2
        have hgd : decide ((c2 : Int) < (hi : Int)) = true := decide_eq_true (by omega)
        obtain ⟨x, hx⟩ : ∃ x, x = dk[e1]! := ⟨_, rfl⟩
        obtain ⟨y, hy⟩ : ∃ y, y = dk[e2]! := ⟨_, rfl⟩
        obtain ⟨z, hz⟩ : ∃ z, z = cf x y := ⟨_, rfl⟩
        have ASK := Lib.hid (ask_at K HK.out he1n he2n)
        have CX := Lib.hid (cell_at HK.out he1n)
        have CY := Lib.hid (cell_at HK.out he2n)
        rw [← hx, ← hy, ← hz] at ASK
        rw [← hx] at CX
        rw [← hy] at CY
        by_cases hlt : ltc cf x y = true
        · have HT := Lib.hid (ltc_t hlt hz)
          have HIN : Hid (R = if ltc cf dk[r1]! dk[e2]! = true then Sort.siftDown (ltc cf) hi first c2 (Sort.swp dk r1 e2) else dk) := by
            show _ = _
            rw [HIN0.out, ← hx, ← hy, hlt, if_pos (by simp [hg2])]
          clear HIN0 hlt hz hx hy
          go_wp2_with (fail)
          refine wp_lax_list (by kernel_rfl) (by kernel_rfl) (by kernel_rfl) ?_
          refine wpL_move (.int .i64 (c1 : Int)) rfl (by kernel_rfl) (by kernel_rfl) (by kernel_rfl) (by kernel_rfl) ?_
          refine wpL_run1 (x := .tmp 19) (.int .i64 (c1 : Int)) (.int .i64 (c2 : Int)) (by kernel_rfl) (by kernel_rfl) (by kernel_rfl) (by kernel_rfl) (by kernel_rfl) (fun wx ρ hwx h0 hc => bin_add rfl _ 1 HC2.out (by omega) ρ wx h0 (hc _)) ?_
          refine wpL_move (.int .i64 (hi : Int)) rfl (by kernel_rfl) (by kernel_rfl) (by kernel_rfl) (by kernel_rfl) ?_
          refine wpL_run2 (x := .tmp 20) (y := .tmp 21) (.int .i64 (c2 : Int)) (.int .i64 (hi : Int)) (.bool true) (by kernel_rfl) (by kernel_rfl) (by kernel_rfl) (by kernel_rfl) (by kernel_rfl) (by kernel_rfl) (fun wx ρ hwx h0 h1 hc => lss_i rfl hgd ρ wx h0 h1) ?_
          refine wpL_move (.bool true) rfl (by kernel_rfl) (by kernel_rfl) (by kernel_rfl) (by kernel_rfl) ?_
          refine wpL_move (fvOf f bs cb) rfl (by kernel_rfl) (by kernel_rfl) (by kernel_rfl) (by kernel_rfl) ?_
          refine wpL_move (.slice (some ⟨g, 0, none⟩) n c) rfl (by kernel_rfl) (by kernel_rfl) (by kernel_rfl) (by kernel_rfl) ?_
          refine wpL_move (.int .i64 (first : Int)) rfl (by kernel_rfl) (by kernel_rfl) (by kernel_rfl) (by kernel_rfl) ?_
          refine wpL_move (.int .i64 (c1 : Int)) rfl (by kernel_rfl) (by kernel_rfl) (by kernel_rfl) (by kernel_rfl) ?_
          refine wpL_run2 (x := .tmp 26) (y := .tmp 27) (.int .i64 (first : Int)) (.int .i64 (c1 : Int)) (.int .i64 (e1 : Int)) (by kernel_rfl) (by kernel_rfl) (by kernel_rfl) (by kernel_rfl) (by kernel_rfl) (by kernel_rfl) (fun wx ρ hwx h0 h1 hc => bin_add rfl _ _ HE1.out (by omega) ρ wx h0 h1) ?_
          refine wpL_run2 (x := .tmp 25) (y := .tmp 28) (.slice (some ⟨g, 0, none⟩) n c) (.int .i64 (e1 : Int)) (.pointer (some ⟨g, e1, none⟩)) (by kernel_rfl) (by kernel_rfl) (by kernel_rfl) (by kernel_rfl) (by kernel_rfl) (by kernel_rfl) (fun wx ρ hwx h0 h1 hc => idx_i rfl he1n ρ wx h0 h1) ?_
          refine wpL_run1 (x := .tmp 29) (.pointer (some ⟨g, e1, none⟩)) (iV x) (by kernel_rfl) (by kernel_rfl) (by kernel_rfl) (by kernel_rfl) (by kernel_rfl) (fun wx ρ hwx h0 hc => load_i rfl ρ (CX.out wx hwx) h0) ?_
          refine wpL_move (.slice (some ⟨g, 0, none⟩) n c) rfl (by kernel_rfl) (by kernel_rfl) (by kernel_rfl) (by kernel_rfl) ?_
          refine wpL_move (.int .i64 (first : Int)) rfl (by kernel_rfl) (by kernel_rfl) (by kernel_rfl) (by kernel_rfl) ?_
          refine wpL_move (.int .i64 (c1 : Int)) rfl (by kernel_rfl) (by kernel_rfl) (by kernel_rfl) (by kernel_rfl) ?_
          refine wpL_run2 (x := .tmp 32) (y := .tmp 33) (.int .i64 (first : Int)) (.int .i64 (c1 : Int)) (.int .i64 (e1 : Int)) (by kernel_rfl) (by kernel_rfl) (by kernel_rfl) (by kernel_rfl) (by kernel_rfl) (by kernel_rfl) (fun wx ρ hwx h0 h1 hc => bin_add rfl _ _ HE1.out (by omega) ρ wx h0 h1) ?_
          refine wpL_run1 (x := .tmp 34) (.int .i64 (e1 : Int)) (.int .i64 (e2 : Int)) (by kernel_rfl) (by kernel_rfl) (by kernel_rfl) (by kernel_rfl) (by kernel_rfl) (fun wx ρ hwx h0 hc => bin_add rfl _ 1 HEE.out (by omega) ρ wx h0 (hc _)) ?_
          refine wpL_run2 (x := .tmp 31) (y := .tmp 35) (.slice (some ⟨g, 0, none⟩) n c) (.int .i64 (e2 : Int)) (.pointer (some ⟨g, e2, none⟩)) (by kernel_rfl) (by kernel_rfl) (by kernel_rfl) (by kernel_rfl) (by kernel_rfl) (by kernel_rfl) (fun wx ρ hwx h0 h1 hc => idx_i rfl he2n ρ wx h0 h1) ?_
          refine wpL_run1 (x := .tmp 36) (.pointer (some ⟨g, e2, none⟩)) (iV y) (by kernel_rfl) (by kernel_rfl) (by kernel_rfl) (by kernel_rfl) (by kernel_rfl) (fun wx ρ hwx h0 hc => load_i rfl ρ (CY.out wx hwx) h0) ?_
          refine wpL_val (.int .i64 z) [iV x, iV y] (by kernel_rfl) (by kernel_rfl) rfl (by kernel_rfl) (by kernel_rfl) (by kernel_rfl) (by kernel_rfl) ENT.out (fun wx hwx => ASK.out wx hwx) ?_
          refine wpL_run1 (x := .tmp 38) (.int .i64 z) (.bool true) (by kernel_rfl) (by kernel_rfl) (by kernel_rfl) (by kernel_rfl) (by kernel_rfl) (fun wx ρ hwx h0 hc => lss_i rfl HT.out ρ wx h0 (hc _)) ?_
          refine wpL_run2 (x := .tmp 23) (y := .tmp 39) (.bool true) (.bool true) (.bool true) (by kernel_rfl) (by kernel_rfl) (by kernel_rfl) (by kernel_rfl) (by kernel_rfl) (by kernel_rfl) (fun wx ρ hwx h0 h1 hc => by simp [go_sem, h0, h1]) ?_
          refine wpL_end (by kernel_rfl) (fun w1 hw1 => ?_)
          simp only [FinL, setL, List.set_cons_zero, List.set_cons_succ]
          have H4 := Lib.hid (HK.out.later hw1)
          clear ASK CX CY
          have hc22 : (c1 : Int) + 1 = (c2 : Int) := by have := HC2.out; omega
          obtain ⟨p, hp⟩ : ∃ x, x = dk[r1]! := ⟨_, rfl⟩
          obtain ⟨q, hq⟩ : ∃ y, y = dk[e2]! := ⟨_, rfl⟩
          obtain ⟨z2, hz2⟩ : ∃ z, z = cf p q := ⟨_, rfl⟩
          have ASK2 := Lib.hid (ask_at K H4.out hr1n he2n)
          have CP := Lib.hid (cell_at H4.out hr1n)
          have CQ := Lib.hid (cell_at H4.out he2n)
          rw [← hp, ← hq, ← hz2] at ASK2
          rw [← hp] at CP
          rw [← hq] at CQ
          have HIN2 : Hid (R = if ltc cf p q = true then Sort.siftDown (ltc cf) hi first c2 (Sort.swp dk r1 e2) else dk) := by show _ = _; rw [hp, hq]; exact HIN.out
          by_cases hl2 : ltc cf p q = true
          · have HT2 := Lib.hid (ltc_t hl2 hz2)
            have HE2 : Hid (Sort.siftDown (ltc cf) hi first c2 (Sort.swp dk r1 e2) = R) := by show _ = _; rw [HIN2.out, if_pos hl2]
            clear HIN HIN2 hl2 hz2 hp hq
            go_wp2_with (fail)
            refine wp_lax_list (by kernel_rfl) (by kernel_rfl) (by kernel_rfl) ?_
            refine wpL_move (fvOf f bs cb) rfl (by kernel_rfl) (by kernel_rfl) (by kernel_rfl) (by kernel_rfl) ?_
            refine wpL_move (.slice (some ⟨g, 0, none⟩) n c) rfl (by kernel_rfl) (by kernel_rfl) (by kernel_rfl) (by kernel_rfl) ?_
            refine wpL_move (.int .i64 (first : Int)) rfl (by kernel_rfl) (by kernel_rfl) (by kernel_rfl) (by kernel_rfl) ?_
            refine wpL_move (.int .i64 (root : Int)) rfl (by kernel_rfl) (by kernel_rfl) (by kernel_rfl) (by kernel_rfl) ?_
            refine wpL_run2 (x := .tmp 45) (y := .tmp 46) (.int .i64 (first : Int)) (.int .i64 (root : Int)) (.int .i64 (r1 : Int)) (by kernel_rfl) (by kernel_rfl) (by kernel_rfl) (by kernel_rfl) (by kernel_rfl) (by kernel_rfl) (fun wx ρ hwx h0 h1 hc => bin_add rfl _ _ HR1.out (by omega) ρ wx h0 h1) ?_
            refine wpL_run2 (x := .tmp 44) (y := .tmp 47) (.slice (some ⟨g, 0, none⟩) n c) (.int .i64 (r1 : Int)) (.pointer (some ⟨g, r1, none⟩)) (by kernel_rfl) (by kernel_rfl) (by kernel_rfl) (by kernel_rfl) (by kernel_rfl) (by kernel_rfl) (fun wx ρ hwx h0 h1 hc => idx_i rfl hr1n ρ wx h0 h1) ?_
            refine wpL_run1 (x := .tmp 48) (.pointer (some ⟨g, r1, none⟩)) (iV p) (by kernel_rfl) (by kernel_rfl) (by kernel_rfl) (by kernel_rfl) (by kernel_rfl) (fun wx ρ hwx h0 hc => load_i rfl ρ (CP.out wx hwx) h0) ?_
            refine wpL_move (.slice (some ⟨g, 0, none⟩) n c) rfl (by kernel_rfl) (by kernel_rfl) (by kernel_rfl) (by kernel_rfl) ?_
            refine wpL_move (.int .i64 (first : Int)) rfl (by kernel_rfl) (by kernel_rfl) (by kernel_rfl) (by kernel_rfl) ?_
            refine wpL_move (.int .i64 (c2 : Int)) rfl (by kernel_rfl) (by kernel_rfl) (by kernel_rfl) (by kernel_rfl) ?_
            refine wpL_run2 (x := .tmp 51) (y := .tmp 52) (.int .i64 (first : Int)) (.int .i64 (c2 : Int)) (.int .i64 (e2 : Int)) (by kernel_rfl) (by kernel_rfl) (by kernel_rfl) (by kernel_rfl) (by kernel_rfl) (by kernel_rfl) (fun wx ρ hwx h0 h1 hc => bin_add rfl _ _ HE22.out (by omega) ρ wx h0 h1) ?_
            refine wpL_run2 (x := .tmp 50) (y := .tmp 53) (.slice (some ⟨g, 0, none⟩) n c) (.int .i64 (e2 : Int)) (.pointer (some ⟨g, e2, none⟩)) (by kernel_rfl) (by kernel_rfl) (by kernel_rfl) (by kernel_rfl) (by kernel_rfl) (by kernel_rfl) (fun wx ρ hwx h0 h1 hc => idx_i rfl he2n ρ wx h0 h1) ?_
            refine wpL_run1 (x := .tmp 54) (.pointer (some ⟨g, e2, none⟩)) (iV q) (by kernel_rfl) (by kernel_rfl) (by kernel_rfl) (by kernel_rfl) (by kernel_rfl) (fun wx ρ hwx h0 hc => load_i rfl ρ (CQ.out wx hwx) h0) ?_
            refine wpL_val (.int .i64 z2) [iV p, iV q] (by kernel_rfl) (by kernel_rfl) rfl (by kernel_rfl) (by kernel_rfl) (by kernel_rfl) (by kernel_rfl) ENT.out (fun wx hwx => ASK2.out wx hwx) ?_
            refine wpL_run1 (x := .tmp 56) (.int .i64 z2) (.bool true) (by kernel_rfl) (by kernel_rfl) (by kernel_rfl) (by kernel_rfl) (by kernel_rfl) (fun wx ρ hwx h0 hc => lss_i rfl HT2.out ρ wx h0 (hc _)) ?_
            refine wpL_run1 (x := .tmp 57) (.bool true) (.bool false) (by kernel_rfl) (by kernel_rfl) (by kernel_rfl) (by kernel_rfl) (by kernel_rfl) (fun wx ρ hwx h0 hc => not_b rfl rfl ρ wx h0) ?_
            refine wpL_end (by kernel_rfl) (fun w1 hw1 => ?_)
            simp only [FinL, setL, List.set_cons_zero, List.set_cons_succ]
            have H5 := Lib.hid (H4.out.later hw1)
            obtain ⟨xi, hxi⟩ : ∃ x, x = dk[r1]! := ⟨_, rfl⟩
            obtain ⟨xj, hxj⟩ : ∃ x, x = dk[e2]! := ⟨_, rfl⟩
            have H2 := Lib.hid (H5.out.swap hr1n he2n).drew
            have k1 := H5.out.cell hr1n
            have k2 := H5.out.cell he2n
            have f1 := H5.out.froz hr1n
            have f2 := H5.out.froz he2n
            obtain ⟨u, k3⟩ := H5.out.swap2 hr1n he2n
            rw [← hxi, ← hxj] at H2
            rw [← hxi] at k1
            rw [← hxj] at k2 k3
            clear hxi hxj
            have hs1 : IntKind.i64.wrap ((first : Int) + (root : Int)) = (r1 : Int) := by have := HR1.out; rw [IntKind.wrap_i64]; omega
            have hs2 : IntKind.i64.wrap ((first : Int) + (c2 : Int)) = (e2 : Int) := by have := HE22.out; rw [IntKind.wrap_i64]; omega
            clear ASK2 CP CQ hc12
            go_wp2_with (fail)
            go_region
            go_wp2
            go_roundw
            case rel => exact ⟨c2, Sort.swp dk r1 e2, rfl, by have := HE1.out; have := HC2.out; omega, H2.out, HE2.out⟩
            case measure => have := HC2.out; have := HC1.out; simp [intOf]; omega
          · have hlf : ltc cf p q = false := by simpa using hl2
            have HT2 := Lib.hid (ltc_t hlf hz2)
            have HE2 : Hid (R = dk) := by show _ = _; rw [HIN2.out, if_neg hl2]
            clear HIN HIN2 hl2 hlf hz2 hp hq
            go_wp2_with (fail)
            refine wp_lax_list (by kernel_rfl) (by kernel_rfl) (by kernel_rfl) ?_
            refine wpL_move (fvOf f bs cb) rfl (by kernel_rfl) (by kernel_rfl) (by kernel_rfl) (by kernel_rfl) ?_
            refine wpL_move (.slice (some ⟨g, 0, none⟩) n c) rfl (by kernel_rfl) (by kernel_rfl) (by kernel_rfl) (by kernel_rfl) ?_
            refine wpL_move (.int .i64 (first : Int)) rfl (by kernel_rfl) (by kernel_rfl) (by kernel_rfl) (by kernel_rfl) ?_
            refine wpL_move (.int .i64 (root : Int)) rfl (by kernel_rfl) (by kernel_rfl) (by kernel_rfl) (by kernel_rfl) ?_
            refine wpL_run2 (x := .tmp 45) (y := .tmp 46) (.int .i64 (first : Int)) (.int .i64 (root : Int)) (.int .i64 (r1 : Int)) (by kernel_rfl) (by kernel_rfl) (by kernel_rfl) (by kernel_rfl) (by kernel_rfl) (by kernel_rfl) (fun wx ρ hwx h0 h1 hc => bin_add rfl _ _ HR1.out (by omega) ρ wx h0 h1) ?_
            refine wpL_run2 (x := .tmp 44) (y := .tmp 47) (.slice (some ⟨g, 0, none⟩) n c) (.int .i64 (r1 : Int)) (.pointer (some ⟨g, r1, none⟩)) (by kernel_rfl) (by kernel_rfl) (by kernel_rfl) (by kernel_rfl) (by kernel_rfl) (by kernel_rfl) (fun wx ρ hwx h0 h1 hc => idx_i rfl hr1n ρ wx h0 h1) ?_
            refine wpL_run1 (x := .tmp 48) (.pointer (some ⟨g, r1, none⟩)) (iV p) (by kernel_rfl) (by kernel_rfl) (by kernel_rfl) (by kernel_rfl) (by kernel_rfl) (fun wx ρ hwx h0 hc => load_i rfl ρ (CP.out wx hwx) h0) ?_
            refine wpL_move (.slice (some ⟨g, 0, none⟩) n c) rfl (by kernel_rfl) (by kernel_rfl) (by kernel_rfl) (by kernel_rfl) ?_
            refine wpL_move (.int .i64 (first : Int)) rfl (by kernel_rfl) (by kernel_rfl) (by kernel_rfl) (by kernel_rfl) ?_
            refine wpL_move (.int .i64 (c2 : Int)) rfl (by kernel_rfl) (by kernel_rfl) (by kernel_rfl) (by kernel_rfl) ?_
            refine wpL_run2 (x := .tmp 51) (y := .tmp 52) (.int .i64 (first : Int)) (.int .i64 (c2 : Int)) (.int .i64 (e2 : Int)) (by kernel_rfl) (by kernel_rfl) (by kernel_rfl) (by kernel_rfl) (by kernel_rfl) (by kernel_rfl) (fun wx ρ hwx h0 h1 hc => bin_add rfl _ _ HE22.out (by omega) ρ wx h0 h1) ?_
            refine wpL_run2 (x := .tmp 50) (y := .tmp 53) (.slice (some ⟨g, 0, none⟩) n c) (.int .i64 (e2 : Int)) (.pointer (some ⟨g, e2, none⟩)) (by kernel_rfl) (by kernel_rfl) (by kernel_rfl) (by kernel_rfl) (by kernel_rfl) (by kernel_rfl) (fun wx ρ hwx h0 h1 hc => idx_i rfl he2n ρ wx h0 h1) ?_
            refine wpL_run1 (x := .tmp 54) (.pointer (some ⟨g, e2, none⟩)) (iV q) (by kernel_rfl) (by kernel_rfl) (by kernel_rfl) (by kernel_rfl) (by kernel_rfl) (fun wx ρ hwx h0 hc => load_i rfl ρ (CQ.out wx hwx) h0) ?_
            refine wpL_val (.int .i64 z2) [iV p, iV q] (by kernel_rfl) (by kernel_rfl) rfl (by kernel_rfl) (by kernel_rfl) (by kernel_rfl) (by kernel_rfl) ENT.out (fun wx hwx => ASK2.out wx hwx) ?_
            refine wpL_run1 (x := .tmp 56) (.int .i64 z2) (.bool false) (by kernel_rfl) (by kernel_rfl) (by kernel_rfl) (by kernel_rfl) (by kernel_rfl) (fun wx ρ hwx h0 hc => lss_i rfl HT2.out ρ wx h0 (hc _)) ?_
            refine wpL_run1 (x := .tmp 57) (.bool false) (.bool true) (by kernel_rfl) (by kernel_rfl) (by kernel_rfl) (by kernel_rfl) (by kernel_rfl) (fun wx ρ hwx h0 hc => not_b rfl rfl ρ wx h0) ?_
            refine wpL_end (by kernel_rfl) (fun w1 hw1 => ?_)
            simp only [FinL, setL, List.set_cons_zero, List.set_cons_succ]
            have H5 := Lib.hid (H4.out.later hw1)
            clear ASK2 CP CQ
            go_wp2
            refine bodyPost_ret (results_none rfl _ _ _) rfl ?_
            rw [HE2.out]
            exact ⟨rfl, H5.out⟩
        · have hlf : ltc cf x y = false := by simpa using hlt
          have HT := Lib.hid (ltc_t hlf hz)
          have HIN : Hid (R = if ltc cf dk[r1]! dk[e1]! = true then Sort.siftDown (ltc cf) hi first c1 (Sort.swp dk r1 e1) else dk) := by
            show _ = _
            rw [HIN0.out, ← hx, ← hy, hlf, if_neg (by simp)]
          clear HIN0 hlt hlf hz hx hy
          go_wp2_with (fail)
          refine wp_lax_list (by kernel_rfl) (by kernel_rfl) (by kernel_rfl) ?_
          refine wpL_move (.int .i64 (c1 : Int)) rfl (by kernel_rfl) (by kernel_rfl) (by kernel_rfl) (by kernel_rfl) ?_
          refine wpL_run1 (x := .tmp 19) (.int .i64 (c1 : Int)) (.int .i64 (c2 : Int)) (by kernel_rfl) (by kernel_rfl) (by kernel_rfl) (by kernel_rfl) (by kernel_rfl) (fun wx ρ hwx h0 hc => bin_add rfl _ 1 HC2.out (by omega) ρ wx h0 (hc _)) ?_
          refine wpL_move (.int .i64 (hi : Int)) rfl (by kernel_rfl) (by kernel_rfl) (by kernel_rfl) (by kernel_rfl) ?_
          refine wpL_run2 (x := .tmp 20) (y := .tmp 21) (.int .i64 (c2 : Int)) (.int .i64 (hi : Int)) (.bool true) (by kernel_rfl) (by kernel_rfl) (by kernel_rfl) (by kernel_rfl) (by kernel_rfl) (by kernel_rfl) (fun wx ρ hwx h0 h1 hc => lss_i rfl hgd ρ wx h0 h1) ?_
          refine wpL_move (.bool true) rfl (by kernel_rfl) (by kernel_rfl) (by kernel_rfl) (by kernel_rfl) ?_
          refine wpL_move (fvOf f bs cb) rfl (by kernel_rfl) (by kernel_rfl) (by kernel_rfl) (by kernel_rfl) ?_
          refine wpL_move (.slice (some ⟨g, 0, none⟩) n c) rfl (by kernel_rfl) (by kernel_rfl) (by kernel_rfl) (by kernel_rfl) ?_
          refine wpL_move (.int .i64 (first : Int)) rfl (by kernel_rfl) (by kernel_rfl) (by kernel_rfl) (by kernel_rfl) ?_
          refine wpL_move (.int .i64 (c1 : Int)) rfl (by kernel_rfl) (by kernel_rfl) (by kernel_rfl) (by kernel_rfl) ?_
          refine wpL_run2 (x := .tmp 26) (y := .tmp 27) (.int .i64 (first : Int)) (.int .i64 (c1 : Int)) (.int .i64 (e1 : Int)) (by kernel_rfl) (by kernel_rfl) (by kernel_rfl) (by kernel_rfl) (by kernel_rfl) (by kernel_rfl) (fun wx ρ hwx h0 h1 hc => bin_add rfl _ _ HE1.out (by omega) ρ wx h0 h1) ?_
          refine wpL_run2 (x := .tmp 25) (y := .tmp 28) (.slice (some ⟨g, 0, none⟩) n c) (.int .i64 (e1 : Int)) (.pointer (some ⟨g, e1, none⟩)) (by kernel_rfl) (by kernel_rfl) (by kernel_rfl) (by kernel_rfl) (by kernel_rfl) (by kernel_rfl) (fun wx ρ hwx h0 h1 hc => idx_i rfl he1n ρ wx h0 h1) ?_
          refine wpL_run1 (x := .tmp 29) (.pointer (some ⟨g, e1, none⟩)) (iV x) (by kernel_rfl) (by kernel_rfl) (by kernel_rfl) (by kernel_rfl) (by kernel_rfl) (fun wx ρ hwx h0 hc => load_i rfl ρ (CX.out wx hwx) h0) ?_
          refine wpL_move (.slice (some ⟨g, 0, none⟩) n c) rfl (by kernel_rfl) (by kernel_rfl) (by kernel_rfl) (by kernel_rfl) ?_
          refine wpL_move (.int .i64 (first : Int)) rfl (by kernel_rfl) (by kernel_rfl) (by kernel_rfl) (by kernel_rfl) ?_
          refine wpL_move (.int .i64 (c1 : Int)) rfl (by kernel_rfl) (by kernel_rfl) (by kernel_rfl) (by kernel_rfl) ?_
          refine wpL_run2 (x := .tmp 32) (y := .tmp 33) (.int .i64 (first : Int)) (.int .i64 (c1 : Int)) (.int .i64 (e1 : Int)) (by kernel_rfl) (by kernel_rfl) (by kernel_rfl) (by kernel_rfl) (by kernel_rfl) (by kernel_rfl) (fun wx ρ hwx h0 h1 hc => bin_add rfl _ _ HE1.out (by omega) ρ wx h0 h1) ?_
          refine wpL_run1 (x := .tmp 34) (.int .i64 (e1 : Int)) (.int .i64 (e2 : Int)) (by kernel_rfl) (by kernel_rfl) (by kernel_rfl) (by kernel_rfl) (by kernel_rfl) (fun wx ρ hwx h0 hc => bin_add rfl _ 1 HEE.out (by omega) ρ wx h0 (hc _)) ?_
          refine wpL_run2 (x := .tmp 31) (y := .tmp 35) (.slice (some ⟨g, 0, none⟩) n c) (.int .i64 (e2 : Int)) (.pointer (some ⟨g, e2, none⟩)) (by kernel_rfl) (by kernel_rfl) (by kernel_rfl) (by kernel_rfl) (by kernel_rfl) (by kernel_rfl) (fun wx ρ hwx h0 h1 hc => idx_i rfl he2n ρ wx h0 h1) ?_
          refine wpL_run1 (x := .tmp 36) (.pointer (some ⟨g, e2, none⟩)) (iV y) (by kernel_rfl) (by kernel_rfl) (by kernel_rfl) (by kernel_rfl) (by kernel_rfl) (fun wx ρ hwx h0 hc => load_i rfl ρ (CY.out wx hwx) h0) ?_
          refine wpL_val (.int .i64 z) [iV x, iV y] (by kernel_rfl) (by kernel_rfl) rfl (by kernel_rfl) (by kernel_rfl) (by kernel_rfl) (by kernel_rfl) ENT.out (fun wx hwx => ASK.out wx hwx) ?_
          refine wpL_run1 (x := .tmp 38) (.int .i64 z) (.bool false) (by kernel_rfl) (by kernel_rfl) (by kernel_rfl) (by kernel_rfl) (by kernel_rfl) (fun wx ρ hwx h0 hc => lss_i rfl HT.out ρ wx h0 (hc _)) ?_
          refine wpL_run2 (x := .tmp 23) (y := .tmp 39) (.bool true) (.bool false) (.bool false) (by kernel_rfl) (by kernel_rfl) (by kernel_rfl) (by kernel_rfl) (by kernel_rfl) (by kernel_rfl) (fun wx ρ hwx h0 h1 hc => by simp [go_sem, h0, h1]) ?_
          refine wpL_end (by kernel_rfl) (fun w1 hw1 => ?_)
          simp only [FinL, setL, List.set_cons_zero, List.set_cons_succ]
          have H4 := Lib.hid (HK.out.later hw1)
          clear ASK CX CY
          obtain ⟨p, hp⟩ : ∃ x, x = dk[r1]! := ⟨_, rfl⟩
          obtain ⟨q, hq⟩ : ∃ y, y = dk[e1]! := ⟨_, rfl⟩
          obtain ⟨z2, hz2⟩ : ∃ z, z = cf p q := ⟨_, rfl⟩
          have ASK2 := Lib.hid (ask_at K H4.out hr1n he1n)
          have CP := Lib.hid (cell_at H4.out hr1n)
          have CQ := Lib.hid (cell_at H4.out he1n)
          rw [← hp, ← hq, ← hz2] at ASK2
          rw [← hp] at CP
          rw [← hq] at CQ
          have HIN2 : Hid (R = if ltc cf p q = true then Sort.siftDown (ltc cf) hi first c1 (Sort.swp dk r1 e1) else dk) := by show _ = _; rw [hp, hq]; exact HIN.out
          by_cases hl2 : ltc cf p q = true
          · have HT2 := Lib.hid (ltc_t hl2 hz2)
            have HE2 : Hid (Sort.siftDown (ltc cf) hi first c1 (Sort.swp dk r1 e1) = R) := by show _ = _; rw [HIN2.out, if_pos hl2]
            clear HIN HIN2 hl2 hz2 hp hq
            go_wp2_with (fail)
            refine wp_lax_list (by kernel_rfl) (by kernel_rfl) (by kernel_rfl) ?_
            refine wpL_move (fvOf f bs cb) rfl (by kernel_rfl) (by kernel_rfl) (by kernel_rfl) (by kernel_rfl) ?_
            refine wpL_move (.slice (some ⟨g, 0, none⟩) n c) rfl (by kernel_rfl) (by kernel_rfl) (by kernel_rfl) (by kernel_rfl) ?_
            refine wpL_move (.int .i64 (first : Int)) rfl (by kernel_rfl) (by kernel_rfl) (by kernel_rfl) (by kernel_rfl) ?_
            refine wpL_move (.int .i64 (root : Int)) rfl (by kernel_rfl) (by kernel_rfl) (by kernel_rfl) (by kernel_rfl) ?_
            refine wpL_run2 (x := .tmp 45) (y := .tmp 46) (.int .i64 (first : Int)) (.int .i64 (root : Int)) (.int .i64 (r1 : Int)) (by kernel_rfl) (by kernel_rfl) (by kernel_rfl) (by kernel_rfl) (by kernel_rfl) (by kernel_rfl) (fun wx ρ hwx h0 h1 hc => bin_add rfl _ _ HR1.out (by omega) ρ wx h0 h1) ?_
            refine wpL_run2 (x := .tmp 44) (y := .tmp 47) (.slice (some ⟨g, 0, none⟩) n c) (.int .i64 (r1 : Int)) (.pointer (some ⟨g, r1, none⟩)) (by kernel_rfl) (by kernel_rfl) (by kernel_rfl) (by kernel_rfl) (by kernel_rfl) (by kernel_rfl) (fun wx ρ hwx h0 h1 hc => idx_i rfl hr1n ρ wx h0 h1) ?_
            refine wpL_run1 (x := .tmp 48) (.pointer (some ⟨g, r1, none⟩)) (iV p) (by kernel_rfl) (by kernel_rfl) (by kernel_rfl) (by kernel_rfl) (by kernel_rfl) (fun wx ρ hwx h0 hc => load_i rfl ρ (CP.out wx hwx) h0) ?_
            refine wpL_move (.slice (some ⟨g, 0, none⟩) n c) rfl (by kernel_rfl) (by kernel_rfl) (by kernel_rfl) (by kernel_rfl) ?_
            refine wpL_move (.int .i64 (first : Int)) rfl (by kernel_rfl) (by kernel_rfl) (by kernel_rfl) (by kernel_rfl) ?_
            refine wpL_move (.int .i64 (c1 : Int)) rfl (by kernel_rfl) (by kernel_rfl) (by kernel_rfl) (by kernel_rfl) ?_
            refine wpL_run2 (x := .tmp 51) (y := .tmp 52) (.int .i64 (first : Int)) (.int .i64 (c1 : Int)) (.int .i64 (e1 : Int)) (by kernel_rfl) (by kernel_rfl) (by kernel_rfl) (by kernel_rfl) (by kernel_rfl) (by kernel_rfl) (fun wx ρ hwx h0 h1 hc => bin_add rfl _ _ HE1.out (by omega) ρ wx h0 h1) ?_
            refine wpL_run2 (x := .tmp 50) (y := .tmp 53) (.slice (some ⟨g, 0, none⟩) n c) (.int .i64 (e1 : Int)) (.pointer (some ⟨g, e1, none⟩)) (by kernel_rfl) (by kernel_rfl) (by kernel_rfl) (by kernel_rfl) (by kernel_rfl) (by kernel_rfl) (fun wx ρ hwx h0 h1 hc => idx_i rfl he1n ρ wx h0 h1) ?_
            refine wpL_run1 (x := .tmp 54) (.pointer (some ⟨g, e1, none⟩)) (iV q) (by kernel_rfl) (by kernel_rfl) (by kernel_rfl) (by kernel_rfl) (by kernel_rfl) (fun wx ρ hwx h0 hc => load_i rfl ρ (CQ.out wx hwx) h0) ?_
            refine wpL_val (.int .i64 z2) [iV p, iV q] (by kernel_rfl) (by kernel_rfl) rfl (by kernel_rfl) (by kernel_rfl) (by kernel_rfl) (by kernel_rfl) ENT.out (fun wx hwx => ASK2.out wx hwx) ?_
            refine wpL_run1 (x := .tmp 56) (.int .i64 z2) (.bool true) (by kernel_rfl) (by kernel_rfl) (by kernel_rfl) (by kernel_rfl) (by kernel_rfl) (fun wx ρ hwx h0 hc => lss_i rfl HT2.out ρ wx h0 (hc _)) ?_
            refine wpL_run1 (x := .tmp 57) (.bool true) (.bool false) (by kernel_rfl) (by kernel_rfl) (by kernel_rfl) (by kernel_rfl) (by kernel_rfl) (fun wx ρ hwx h0 hc => not_b rfl rfl ρ wx h0) ?_
            refine wpL_end (by kernel_rfl) (fun w1 hw1 => ?_)
            simp only [FinL, setL, List.set_cons_zero, List.set_cons_succ]
            have H5 := Lib.hid (H4.out.later hw1)
            obtain ⟨xi, hxi⟩ : ∃ x, x = dk[r1]! := ⟨_, rfl⟩
            obtain ⟨xj, hxj⟩ : ∃ x, x = dk[e1]! := ⟨_, rfl⟩
            have H2 := Lib.hid (H5.out.swap hr1n he1n).drew
            have k1 := H5.out.cell hr1n
            have k2 := H5.out.cell he1n
            have f1 := H5.out.froz hr1n
            have f2 := H5.out.froz he1n
            obtain ⟨u, k3⟩ := H5.out.swap2 hr1n he1n
            rw [← hxi, ← hxj] at H2
            rw [← hxi] at k1
            rw [← hxj] at k2 k3
            clear hxi hxj
            have hs1 : IntKind.i64.wrap ((first : Int) + (root : Int)) = (r1 : Int) := by have := HR1.out; rw [IntKind.wrap_i64]; omega
            have hs2 : IntKind.i64.wrap ((first : Int) + (c1 : Int)) = (e1 : Int) := by have := HE1.out; rw [IntKind.wrap_i64]; omega
            clear ASK2 CP CQ hc12
            go_wp2_with (fail)
            go_region
            go_wp2
            go_roundw
            case rel => exact ⟨c1, Sort.swp dk r1 e1, rfl, by have := HE1.out; have := HC2.out; omega, H2.out, HE2.out⟩
            case measure => have := HC2.out; have := HC1.out; simp [intOf]; omega
          · have hlf : ltc cf p q = false := by simpa using hl2
            have HT2 := Lib.hid (ltc_t hlf hz2)
            have HE2 : Hid (R = dk) := by show _ = _; rw [HIN2.out, if_neg hl2]
            clear HIN HIN2 hl2 hlf hz2 hp hq
            go_wp2_with (fail)
            refine wp_lax_list (by kernel_rfl) (by kernel_rfl) (by kernel_rfl) ?_
            refine wpL_move (fvOf f bs cb) rfl (by kernel_rfl) (by kernel_rfl) (by kernel_rfl) (by kernel_rfl) ?_
            refine wpL_move (.slice (some ⟨g, 0, none⟩) n c) rfl (by kernel_rfl) (by kernel_rfl) (by kernel_rfl) (by kernel_rfl) ?_
            refine wpL_move (.int .i64 (first : Int)) rfl (by kernel_rfl) (by kernel_rfl) (by kernel_rfl) (by kernel_rfl) ?_
            refine wpL_move (.int .i64 (root : Int)) rfl (by kernel_rfl) (by kernel_rfl) (by kernel_rfl) (by kernel_rfl) ?_
            refine wpL_run2 (x := .tmp 45) (y := .tmp 46) (.int .i64 (first : Int)) (.int .i64 (root : Int)) (.int .i64 (r1 : Int)) (by kernel_rfl) (by kernel_rfl) (by kernel_rfl) (by kernel_rfl) (by kernel_rfl) (by kernel_rfl) (fun wx ρ hwx h0 h1 hc => bin_add rfl _ _ HR1.out (by omega) ρ wx h0 h1) ?_
            refine wpL_run2 (x := .tmp 44) (y := .tmp 47) (.slice (some ⟨g, 0, none⟩) n c) (.int .i64 (r1 : Int)) (.pointer (some ⟨g, r1, none⟩)) (by kernel_rfl) (by kernel_rfl) (by kernel_rfl) (by kernel_rfl) (by kernel_rfl) (by kernel_rfl) (fun wx ρ hwx h0 h1 hc => idx_i rfl hr1n ρ wx h0 h1) ?_
            refine wpL_run1 (x := .tmp 48) (.pointer (some ⟨g, r1, none⟩)) (iV p) (by kernel_rfl) (by kernel_rfl) (by kernel_rfl) (by kernel_rfl) (by kernel_rfl) (fun wx ρ hwx h0 hc => load_i rfl ρ (CP.out wx hwx) h0) ?_
            refine wpL_move (.slice (some ⟨g, 0, none⟩) n c) rfl (by kernel_rfl) (by kernel_rfl) (by kernel_rfl) (by kernel_rfl) ?_
            refine wpL_move (.int .i64 (first : Int)) rfl (by kernel_rfl) (by kernel_rfl) (by kernel_rfl) (by kernel_rfl) ?_
            refine wpL_move (.int .i64 (c1 : Int)) rfl (by kernel_rfl) (by kernel_rfl) (by kernel_rfl) (by kernel_rfl) ?_
            refine wpL_run2 (x := .tmp 51) (y := .tmp 52) (.int .i64 (first : Int)) (.int .i64 (c1 : Int)) (.int .i64 (e1 : Int)) (by kernel_rfl) (by kernel_rfl) (by kernel_rfl) (by kernel_rfl) (by kernel_rfl) (by kernel_rfl) (fun wx ρ hwx h0 h1 hc => bin_add rfl _ _ HE1.out (by omega) ρ wx h0 h1) ?_
            refine wpL_run2 (x := .tmp 50) (y := .tmp 53) (.slice (some ⟨g, 0, none⟩) n c) (.int .i64 (e1 : Int)) (.pointer (some ⟨g, e1, none⟩)) (by kernel_rfl) (by kernel_rfl) (by kernel_rfl) (by kernel_rfl) (by kernel_rfl) (by kernel_rfl) (fun wx ρ hwx h0 h1 hc => idx_i rfl he1n ρ wx h0 h1) ?_
            refine wpL_run1 (x := .tmp 54) (.pointer (some ⟨g, e1, none⟩)) (iV q) (by kernel_rfl) (by kernel_rfl) (by kernel_rfl) (by kernel_rfl) (by kernel_rfl) (fun wx ρ hwx h0 hc => load_i rfl ρ (CQ.out wx hwx) h0) ?_
            refine wpL_val (.int .i64 z2) [iV p, iV q] (by kernel_rfl) (by kernel_rfl) rfl (by kernel_rfl) (by kernel_rfl) (by kernel_rfl) (by kernel_rfl) ENT.out (fun wx hwx => ASK2.out wx hwx) ?_
            refine wpL_run1 (x := .tmp 56) (.int .i64 z2) (.bool false) (by kernel_rfl) (by kernel_rfl) (by kernel_rfl) (by kernel_rfl) (by kernel_rfl) (fun wx ρ hwx h0 hc => lss_i rfl HT2.out ρ wx h0 (hc _)) ?_
            refine wpL_run1 (x := .tmp 57) (.bool false) (.bool true) (by kernel_rfl) (by kernel_rfl) (by kernel_rfl) (by kernel_rfl) (by kernel_rfl) (fun wx ρ hwx h0 hc => not_b rfl rfl ρ wx h0) ?_
            refine wpL_end (by kernel_rfl) (fun w1 hw1 => ?_)
            simp only [FinL, setL, List.set_cons_zero, List.set_cons_succ]
            have H5 := Lib.hid (H4.out.later hw1)
            clear ASK2 CP CQ
            go_wp2
            refine bodyPost_ret (results_none rfl _ _ _) rfl ?_
            rw [HE2.out]
            exact ⟨rfl, H5.out⟩
      · have hgd : decide ((c2 : Int) < (hi : Int)) = false := decide_eq_false (by omega)
        have HIN : Hid (R = if ltc cf dk[r1]! dk[e1]! = true then Sort.siftDown (ltc cf) hi first c1 (Sort.swp dk r1 e1) else dk) := by
          show _ = _
          rw [HIN0.out, if_neg (by simp [hg2])]
        clear HIN0
        go_wp2_with (fail)
        refine wp_lax_list (by kernel_rfl) (by kernel_rfl) (by kernel_rfl) ?_
        refine wpL_move (.int .i64 (c1 : Int)) rfl (by kernel_rfl) (by kernel_rfl) (by kernel_rfl) (by kernel_rfl) ?_
        refine wpL_run1 (x := .tmp 19) (.int .i64 (c1 : Int)) (.int .i64 (c2 : Int)) (by kernel_rfl) (by kernel_rfl) (by kernel_rfl) (by kernel_rfl) (by kernel_rfl) (fun wx ρ hwx h0 hc => bin_add rfl _ 1 HC2.out (by omega) ρ wx h0 (hc _)) ?_
        refine wpL_move (.int .i64 (hi : Int)) rfl (by kernel_rfl) (by kernel_rfl) (by kernel_rfl) (by kernel_rfl) ?_
        refine wpL_run2 (x := .tmp 20) (y := .tmp 21) (.int .i64 (c2 : Int)) (.int .i64 (hi : Int)) (.bool false) (by kernel_rfl) (by kernel_rfl) (by kernel_rfl) (by kernel_rfl) (by kernel_rfl) (by kernel_rfl) (fun wx ρ hwx h0 h1 hc => lss_i rfl hgd ρ wx h0 h1) ?_
        refine wpL_move (.bool false) rfl (by kernel_rfl) (by kernel_rfl) (by kernel_rfl) (by kernel_rfl) ?_
        refine wpL_skip (by kernel_rfl) (by kernel_rfl) ?_
        refine wpL_skip (by kernel_rfl) (by kernel_rfl) ?_
        refine wpL_skip (by kernel_rfl) (by kernel_rfl) ?_
        refine wpL_skip (by kernel_rfl) (by kernel_rfl) ?_
        refine wpL_skip (by kernel_rfl) (by kernel_rfl) ?_
        refine wpL_skip (by kernel_rfl) (by kernel_rfl) ?_
        refine wpL_skip (by kernel_rfl) (by kernel_rfl) ?_
        refine wpL_skip (by kernel_rfl) (by kernel_rfl) ?_
        refine wpL_skip (by kernel_rfl) (by kernel_rfl) ?_
        refine wpL_skip (by kernel_rfl) (by kernel_rfl) ?_
        refine wpL_skip (by kernel_rfl) (by kernel_rfl) ?_
        refine wpL_skip (by kernel_rfl) (by kernel_rfl) ?_
        refine wpL_skip (by kernel_rfl) (by kernel_rfl) ?_
        refine wpL_skip (by kernel_rfl) (by kernel_rfl) ?_
        refine wpL_skip (by kernel_rfl) (by kernel_rfl) ?_
        refine wpL_skip (by kernel_rfl) (by kernel_rfl) ?_
        refine wpL_run1 (x := .tmp 23) (.bool false) (.bool false) (by kernel_rfl) (by kernel_rfl) (by kernel_rfl) (by kernel_rfl) (by kernel_rfl) (fun wx ρ hwx h0 hc => by simp [go_sem, h0, hc]) ?_
        refine wpL_end (by kernel_rfl) (fun w1 hw1 => ?_)
        simp only [FinL, setL, List.set_cons_zero, List.set_cons_succ]
        have H4 := Lib.hid (HK.out.later hw1)
        obtain ⟨p, hp⟩ : ∃ x, x = dk[r1]! := ⟨_, rfl⟩
        obtain ⟨q, hq⟩ : ∃ y, y = dk[e1]! := ⟨_, rfl⟩
        obtain ⟨z2, hz2⟩ : ∃ z, z = cf p q := ⟨_, rfl⟩
        have ASK2 := Lib.hid (ask_at K H4.out hr1n he1n)
        have CP := Lib.hid (cell_at H4.out hr1n)
        have CQ := Lib.hid (cell_at H4.out he1n)
        rw [← hp, ← hq, ← hz2] at ASK2
        rw [← hp] at CP
        rw [← hq] at CQ
        have HIN2 : Hid (R = if ltc cf p q = true then Sort.siftDown (ltc cf) hi first c1 (Sort.swp dk r1 e1) else dk) := by show _ = _; rw [hp, hq]; exact HIN.out
        by_cases hl2 : ltc cf p q = true
        · have HT2 := Lib.hid (ltc_t hl2 hz2)
          have HE2 : Hid (Sort.siftDown (ltc cf) hi first c1 (Sort.swp dk r1 e1) = R) := by show _ = _; rw [HIN2.out, if_pos hl2]
          clear HIN HIN2 hl2 hz2 hp hq
          go_wp2_with (fail)
          refine wp_lax_list (by kernel_rfl) (by kernel_rfl) (by kernel_rfl) ?_
          refine wpL_move (fvOf f bs cb) rfl (by kernel_rfl) (by kernel_rfl) (by kernel_rfl) (by kernel_rfl) ?_
          refine wpL_move (.slice (some ⟨g, 0, none⟩) n c) rfl (by kernel_rfl) (by kernel_rfl) (by kernel_rfl) (by kernel_rfl) ?_
          refine wpL_move (.int .i64 (first : Int)) rfl (by kernel_rfl) (by kernel_rfl) (by kernel_rfl) (by kernel_rfl) ?_
          refine wpL_move (.int .i64 (root : Int)) rfl (by kernel_rfl) (by kernel_rfl) (by kernel_rfl) (by kernel_rfl) ?_
          refine wpL_run2 (x := .tmp 45) (y := .tmp 46) (.int .i64 (first : Int)) (.int .i64 (root : Int)) (.int .i64 (r1 : Int)) (by kernel_rfl) (by kernel_rfl) (by kernel_rfl) (by kernel_rfl) (by kernel_rfl) (by kernel_rfl) (fun wx ρ hwx h0 h1 hc => bin_add rfl _ _ HR1.out (by omega) ρ wx h0 h1) ?_
          refine wpL_run2 (x := .tmp 44) (y := .tmp 47) (.slice (some ⟨g, 0, none⟩) n c) (.int .i64 (r1 : Int)) (.pointer (some ⟨g, r1, none⟩)) (by kernel_rfl) (by kernel_rfl) (by kernel_rfl) (by kernel_rfl) (by kernel_rfl) (by kernel_rfl) (fun wx ρ hwx h0 h1 hc => idx_i rfl hr1n ρ wx h0 h1) ?_
          refine wpL_run1 (x := .tmp 48) (.pointer (some ⟨g, r1, none⟩)) (iV p) (by kernel_rfl) (by kernel_rfl) (by kernel_rfl) (by kernel_rfl) (by kernel_rfl) (fun wx ρ hwx h0 hc => load_i rfl ρ (CP.out wx hwx) h0) ?_
          refine wpL_move (.slice (some ⟨g, 0, none⟩) n c) rfl (by kernel_rfl) (by kernel_rfl) (by kernel_rfl) (by kernel_rfl) ?_
          refine wpL_move (.int .i64 (first : Int)) rfl (by kernel_rfl) (by kernel_rfl) (by kernel_rfl) (by kernel_rfl) ?_
          refine wpL_move (.int .i64 (c1 : Int)) rfl (by kernel_rfl) (by kernel_rfl) (by kernel_rfl) (by kernel_rfl) ?_
          refine wpL_run2 (x := .tmp 51) (y := .tmp 52) (.int .i64 (first : Int)) (.int .i64 (c1 : Int)) (.int .i64 (e1 : Int)) (by kernel_rfl) (by kernel_rfl) (by kernel_rfl) (by kernel_rfl) (by kernel_rfl) (by kernel_rfl) (fun wx ρ hwx h0 h1 hc => bin_add rfl _ _ HE1.out (by omega) ρ wx h0 h1) ?_
          refine wpL_run2 (x := .tmp 50) (y := .tmp 53) (.slice (some ⟨g, 0, none⟩) n c) (.int .i64 (e1 : Int)) (.pointer (some ⟨g, e1, none⟩)) (by kernel_rfl) (by kernel_rfl) (by kernel_rfl) (by kernel_rfl) (by kernel_rfl) (by kernel_rfl) (fun wx ρ hwx h0 h1 hc => idx_i rfl he1n ρ wx h0 h1) ?_
          refine wpL_run1 (x := .tmp 54) (.pointer (some ⟨g, e1, none⟩)) (iV q) (by kernel_rfl) (by kernel_rfl) (by kernel_rfl) (by kernel_rfl) (by kernel_rfl) (fun wx ρ hwx h0 hc => load_i rfl ρ (CQ.out wx hwx) h0) ?_
          refine wpL_val (.int .i64 z2) [iV p, iV q] (by kernel_rfl) (by kernel_rfl) rfl (by kernel_rfl) (by kernel_rfl) (by kernel_rfl) (by kernel_rfl) ENT.out (fun wx hwx => ASK2.out wx hwx) ?_
          refine wpL_run1 (x := .tmp 56) (.int .i64 z2) (.bool true) (by kernel_rfl) (by kernel_rfl) (by kernel_rfl) (by kernel_rfl) (by kernel_rfl) (fun wx ρ hwx h0 hc => lss_i rfl HT2.out ρ wx h0 (hc _)) ?_
          refine wpL_run1 (x := .tmp 57) (.bool true) (.bool false) (by kernel_rfl) (by kernel_rfl) (by kernel_rfl) (by kernel_rfl) (by kernel_rfl) (fun wx ρ hwx h0 hc => not_b rfl rfl ρ wx h0) ?_
          refine wpL_end (by kernel_rfl) (fun w1 hw1 => ?_)
          simp only [FinL, setL, List.set_cons_zero, List.set_cons_succ]
          have H5 := Lib.hid (H4.out.later hw1)
          obtain ⟨xi, hxi⟩ : ∃ x, x = dk[r1]! := ⟨_, rfl⟩
          obtain ⟨xj, hxj⟩ : ∃ x, x = dk[e1]! := ⟨_, rfl⟩
          have H2 := Lib.hid (H5.out.swap hr1n he1n).drew
          have k1 := H5.out.cell hr1n
          have k2 := H5.out.cell he1n
          have f1 := H5.out.froz hr1n
          have f2 := H5.out.froz he1n
          obtain ⟨u, k3⟩ := H5.out.swap2 hr1n he1n
          rw [← hxi, ← hxj] at H2
          rw [← hxi] at k1
          rw [← hxj] at k2 k3
          clear hxi hxj
          have hs1 : IntKind.i64.wrap ((first : Int) + (root : Int)) = (r1 : Int) := by have := HR1.out; rw [IntKind.wrap_i64]; omega
          have hs2 : IntKind.i64.wrap ((first : Int) + (c1 : Int)) = (e1 : Int) := by have := HE1.out; rw [IntKind.wrap_i64]; omega
          clear ASK2 CP CQ hc12
          go_wp2_with (fail)
          go_region
          go_wp2
          go_roundw
          case rel => exact ⟨c1, Sort.swp dk r1 e1, rfl, by have := HE1.out; have := HC2.out; omega, H2.out, HE2.out⟩
          case measure => have := HC2.out; have := HC1.out; simp [intOf]; omega
        · have hlf : ltc cf p q = false := by simpa using hl2
          have HT2 := Lib.hid (ltc_t hlf hz2)
          have HE2 : Hid (R = dk) := by show _ = _; rw [HIN2.out, if_neg hl2]
          clear HIN HIN2 hl2 hlf hz2 hp hq
          go_wp2_with (fail)
          refine wp_lax_list (by kernel_rfl) (by kernel_rfl) (by kernel_rfl) ?_
          refine wpL_move (fvOf f bs cb) rfl (by kernel_rfl) (by kernel_rfl) (by kernel_rfl) (by kernel_rfl) ?_
          refine wpL_move (.slice (some ⟨g, 0, none⟩) n c) rfl (by kernel_rfl) (by kernel_rfl) (by kernel_rfl) (by kernel_rfl) ?_
          refine wpL_move (.int .i64 (first : Int)) rfl (by kernel_rfl) (by kernel_rfl) (by kernel_rfl) (by kernel_rfl) ?_
          refine wpL_move (.int .i64 (root : Int)) rfl (by kernel_rfl) (by kernel_rfl) (by kernel_rfl) (by kernel_rfl) ?_
          refine wpL_run2 (x := .tmp 45) (y := .tmp 46) (.int .i64 (first : Int)) (.int .i64 (root : Int)) (.int .i64 (r1 : Int)) (by kernel_rfl) (by kernel_rfl) (by kernel_rfl) (by kernel_rfl) (by kernel_rfl) (by kernel_rfl) (fun wx ρ hwx h0 h1 hc => bin_add rfl _ _ HR1.out (by omega) ρ wx h0 h1) ?_
          refine wpL_run2 (x := .tmp 44) (y := .tmp 47) (.slice (some ⟨g, 0, none⟩) n c) (.int .i64 (r1 : Int)) (.pointer (some ⟨g, r1, none⟩)) (by kernel_rfl) (by kernel_rfl) (by kernel_rfl) (by kernel_rfl) (by kernel_rfl) (by kernel_rfl) (fun wx ρ hwx h0 h1 hc => idx_i rfl hr1n ρ wx h0 h1) ?_
          refine wpL_run1 (x := .tmp 48) (.pointer (some ⟨g, r1, none⟩)) (iV p) (by kernel_rfl) (by kernel_rfl) (by kernel_rfl) (by kernel_rfl) (by kernel_rfl) (fun wx ρ hwx h0 hc => load_i rfl ρ (CP.out wx hwx) h0) ?_
          refine wpL_move (.slice (some ⟨g, 0, none⟩) n c) rfl (by kernel_rfl) (by kernel_rfl) (by kernel_rfl) (by kernel_rfl) ?_
          refine wpL_move (.int .i64 (first : Int)) rfl (by kernel_rfl) (by kernel_rfl) (by kernel_rfl) (by kernel_rfl) ?_
          refine wpL_move (.int .i64 (c1 : Int)) rfl (by kernel_rfl) (by kernel_rfl) (by kernel_rfl) (by kernel_rfl) ?_
          refine wpL_run2 (x := .tmp 51) (y := .tmp 52) (.int .i64 (first : Int)) (.int .i64 (c1 : Int)) (.int .i64 (e1 : Int)) (by kernel_rfl) (by kernel_rfl) (by kernel_rfl) (by kernel_rfl) (by kernel_rfl) (by kernel_rfl) (fun wx ρ hwx h0 h1 hc => bin_add rfl _ _ HE1.out (by omega) ρ wx h0 h1) ?_
          refine wpL_run2 (x := .tmp 50) (y := .tmp 53) (.slice (some ⟨g, 0, none⟩) n c) (.int .i64 (e1 : Int)) (.pointer (some ⟨g, e1, none⟩)) (by kernel_rfl) (by kernel_rfl) (by kernel_rfl) (by kernel_rfl) (by kernel_rfl) (by kernel_rfl) (fun wx ρ hwx h0 h1 hc => idx_i rfl he1n ρ wx h0 h1) ?_
          refine wpL_run1 (x := .tmp 54) (.pointer (some ⟨g, e1, none⟩)) (iV q) (by kernel_rfl) (by kernel_rfl) (by kernel_rfl) (by kernel_rfl) (by kernel_rfl) (fun wx ρ hwx h0 hc => load_i rfl ρ (CQ.out wx hwx) h0) ?_
          refine wpL_val (.int .i64 z2) [iV p, iV q] (by kernel_rfl) (by kernel_rfl) rfl (by kernel_rfl) (by kernel_rfl) (by kernel_rfl) (by kernel_rfl) ENT.out (fun wx hwx => ASK2.out wx hwx) ?_
          refine wpL_run1 (x := .tmp 56) (.int .i64 z2) (.bool false) (by kernel_rfl) (by kernel_rfl) (by kernel_rfl) (by kernel_rfl) (by kernel_rfl) (fun wx ρ hwx h0 hc => lss_i rfl HT2.out ρ wx h0 (hc _)) ?_
          refine wpL_run1 (x := .tmp 57) (.bool false) (.bool true) (by kernel_rfl) (by kernel_rfl) (by kernel_rfl) (by kernel_rfl) (by kernel_rfl) (fun wx ρ hwx h0 hc => not_b rfl rfl ρ wx h0) ?_
          refine wpL_end (by kernel_rfl) (fun w1 hw1 => ?_)
          simp only [FinL, setL, List.set_cons_zero, List.set_cons_succ]
          have H5 := Lib.hid (H4.out.later hw1)
          clear ASK2 CP CQ
          go_wp2
          refine bodyPost_ret (results_none rfl _ _ _) rfl ?_
          rw [HE2.out]
          exact ⟨rfl, H5.out⟩
set_option maxHeartbeats 4000000 in
theorem heap_any (K : Cmp f bs cb cf Ok B w0 Ts) (S : Sd Ok B w0 Ts g n c Rs w d) (a b : Nat) (hab : a < b) (hb : b ≤ n) (hn : n ≤ 100000) :
    Calls Try.prog 53 #[.slice (some ⟨g, 0, none⟩) n c, .int .i64 (a : Int), .int .i64 (b : Int), fvOf f bs cb] w fun e w' => e = .returned (.tuple #[]) ∧ Sd Ok B w0 Ts g n c Rs w' (Sort.heapSort (ltc cf) d a b) := by
  have HS := Lib.hid S
  obtain ⟨hi, hhi⟩ : ∃ h, h = b - a := ⟨_, rfl⟩
  have hhi2 : (b : Int) - (a : Int) = (hi : Int) := by omega
  obtain ⟨m, hm⟩ : ∃ m, m = (hi - 1) / 2 := ⟨_, rfl⟩
  have hm2 : ((hi : Int) - 1).tdiv 2 = (m : Int) := by rw [show (hi : Int) - 1 = ((hi - 1 : Nat) : Int) by omega, hm]; rfl
  have hmb : m ≤ 100000 := by omega
  have hh : a + hi ≤ n := by omega
  obtain ⟨R, hR⟩ : ∃ R, R = Sort.heapSort (ltc cf) d a b := ⟨_, rfl⟩
  obtain ⟨X, hX⟩ : ∃ X, X = Sort.heapBuild (ltc cf) hi a (m + 1) d := ⟨_, rfl⟩
  rw [← hR]
  have HX0 := Lib.hid hX.symm
  have HR0 : Hid (Sort.heapPop (ltc cf) a hi X = R) := by show _ = _; rw [hR, hX, hm, hhi]; rfl
  have KK := Lib.hid (fun (w : World) (d : Array Nat) (S : Sd Ok B w0 Ts g n c Rs w d) (lo hi first : Nat) (hlo : lo ≤ n) (hh : first + hi ≤ n) => sift_any K S lo hi first hlo hh hn)
  have hmh : m ≤ hi := by omega
  have hhi1 : 1 ≤ hi := by omega
  have hhib : hi ≤ 100000 := by omega
  clear S hR hX hm hhi K
  go_enter Try.func53, Try.ntmps53
  go_wp2
  go_loopw [11] (fun v11 wr => ∃ (k : Nat) (z : Int) (dk : Array Nat), v11 = .int .i64 z ∧ z = (k : Int) - 1 ∧ k ≤ m + 1 ∧ Sd Ok B w0 Ts g n c Rs wr dk ∧ Sort.heapBuild (ltc cf) hi a k dk = X) (fun v11 _ => (intOf v11 + 1).toNat)
  case atStart => exact ⟨m + 1, (m : Int), d, rfl, by omega, Nat.le_refl _, HS.out, HX0.out⟩
  case round =>
    obtain ⟨k, z, dk, rfl, hz, hkm, hs, heq⟩ := hrel
    have HK := Lib.hid hs
    have HE := Lib.hid heq
    clear hs heq HS HX0
    cases k with
    | succ k =>
      obtain rfl : z = (k : Int) := by omega
      have HE2 : Hid (Sort.heapBuild (ltc cf) hi a k (Sort.siftDown (ltc cf) hi a k dk) = X) := HE.out
      obtain ⟨d2, hd2⟩ : ∃ d2, d2 = Sort.siftDown (ltc cf) hi a k dk := ⟨_, rfl⟩
      rw [← hd2] at HE2
      have CC := Lib.hid (KK.out _ _ HK.out k hi a (by omega) hh)
      rw [← hd2] at CC
      clear hz HE hd2
      have hk0 : (0 : Int) ≤ (k : Int) := by omega
      go_wp2_with (fail)
      refine CC.out.mono ?_
      clear CC
      rintro e w1 ⟨rfl, h⟩
      have H1 := Lib.hid h
      clear h
      go_wp2
      go_roundw
      case rel => exact ⟨k, (k : Int) - 1, d2, (by first | rfl | go_num), rfl, by omega, H1.out, HE2.out⟩
      case measure => simp [intOf] <;> omega
    | zero =>
      obtain rfl : z = -1 := by omega
      have HE2 : Hid (dk = X) := HE.out
      clear hz HE
      go_wp2
      go_loopw [12] (fun v12 wr => ∃ (k : Nat) (z : Int) (dk : Array Nat), v12 = .int .i64 z ∧ z = (k : Int) - 1 ∧ k ≤ hi ∧ Sd Ok B w0 Ts g n c Rs wr dk ∧ Sort.heapPop (ltc cf) a k dk = R) (fun v12 _ => (intOf v12 + 1).toNat)
      case atStart => exact ⟨hi, (hi : Int) - 1, dk, (by first | rfl | go_num), rfl, Nat.le_refl _, HK.out, by rw [HE2.out]; exact HR0.out⟩
      case round =>
        obtain ⟨k, z, dk, rfl, hz, hkm, hs, heq⟩ := hrel
        have HK := Lib.hid hs
        have HE := Lib.hid heq
        clear hs heq HR0 HE2
        cases k with
        | succ k =>
          obtain rfl : z = (k : Int) := by omega
          obtain ⟨e1, he1⟩ : ∃ e, e = a + k := ⟨_, rfl⟩
          have he1n : e1 < n := by omega
          have han : a < n := by omega
          obtain ⟨d2, hd2⟩ : ∃ d2, d2 = Sort.siftDown (ltc cf) k a 0 (Sort.swp dk a e1) := ⟨_, rfl⟩
          have HE2 : Hid (Sort.heapPop (ltc cf) a k d2 = R) := by show _ = _; rw [hd2, he1]; exact HE.out
          have hs2 : IntKind.i64.wrap ((a : Int) + (k : Int)) = (e1 : Int) := by rw [IntKind.wrap_i64]; omega
          obtain ⟨xi, hxi⟩ : ∃ x, x = dk[a]! := ⟨_, rfl⟩
          obtain ⟨xj, hxj⟩ : ∃ x, x = dk[e1]! := ⟨_, rfl⟩
          have H2 := Lib.hid (HK.out.swap han he1n).drew
          have k1 := HK.out.cell han
          have k2 := HK.out.cell he1n
          have f1 := HK.out.froz han
          have f2 := HK.out.froz he1n
          obtain ⟨u, k3⟩ := HK.out.swap2 han he1n
          rw [← hxi, ← hxj] at H2
          rw [← hxi] at k1
          rw [← hxj] at k2 k3
          clear hxi hxj
          have CC := Lib.hid (KK.out _ _ H2.out 0 k a (by omega) (by omega))
          rw [← hd2] at CC
          clear hz HE hd2 he1
          have hk0 : (0 : Int) ≤ (k : Int) := by omega
          go_wp2_with (fail)
          go_region
          go_wp2_with (fail)
          refine CC.out.mono ?_
          clear CC
          rintro e w1 ⟨rfl, h⟩
          have H1 := Lib.hid h
          clear h k1 k2 k3 f1 f2 hs2
          go_wp2
          go_roundw
          case rel => exact ⟨k, (k : Int) - 1, d2, (by first | rfl | go_num), rfl, by omega, H1.out, HE2.out⟩
          case measure => simp [intOf] <;> omega
        | zero =>
          obtain rfl : z = -1 := by omega
          have HE3 : Hid (dk = R) := HE.out
          clear hz HE
          go_wp2
          go_end0
          rw [← HE3.out]
          exact ⟨rfl, HK.out⟩
end
end Srt
end Go.Proofs.Ytlgfddpgmpabcaa

end
section
namespace Go.Proofs.Ytlgfddpgmpabcaa
open Go.RowKit Go.Own
namespace Srt
/-- the counter of exchanges -/
abbrev cntA (bx s : Nat) : Asn := AVals bx 3 [iV s]
section
variable {f : FuncId} {bs cb : Array Value} {cf : Nat → Nat → Int} {Ok : Nat → Prop} {B : Nat} {w0 w : World} {Ts Rs : List Asn} {g n c bx s : Nat} {d : Array Nat}
theorem Sd.cnt (S : Sd Ok B w0 Ts g n c (cntA bx s :: Rs) w d) : w.cell? ⟨bx, 0, none⟩ = some (iV s) ∧ w.frozen? ⟨bx, 0, none⟩ = false := S.st.cellV 1 rfl 0 rfl
theorem Sd.bump (S : Sd Ok B w0 Ts g n c (cntA bx s :: Rs) w d) (s' : Nat) : Sd Ok B w0 Ts g n c (cntA bx s' :: Rs) (w.setCell ⟨bx, 0, none⟩ (iV s')) d :=
  ⟨S.st.storeV 1 rfl 0 (iV s'), S.size, S.ok⟩
theorem order2_t {lt : Nat → Nat → Bool} {a b : Nat} (h : lt d[b]! d[a]! = true) : Sort.order2 lt d a b s = (b, a, s + 1) := by unfold Sort.order2; rw [if_pos h]
theorem order2_f {lt : Nat → Nat → Bool} {a b : Nat} (h : ¬ lt d[b]! d[a]! = true) : Sort.order2 lt d a b s = (a, b, s) := by unfold Sort.order2; rw [if_neg h]
set_option maxHeartbeats 4000000 in
theorem order2_any (K : Cmp f bs cb cf Ok B w0 Ts) (S : Sd Ok B w0 Ts g n c (cntA bx s :: Rs) w d) (a b : Nat) (ha : a < n) (hb : b < n) (hs : s ≤ 1000) :
    Calls Try.prog 70 #[.slice (some ⟨g, 0, none⟩) n c, .int .i64 (a : Int), .int .i64 (b : Int), .pointer (some ⟨bx, 0, none⟩), fvOf f bs cb] w fun e w' =>
      e = .returned (.tuple #[iV (Sort.order2 (ltc cf) d a b s).1, iV (Sort.order2 (ltc cf) d a b s).2.1]) ∧ Sd Ok B w0 Ts g n c (cntA bx (Sort.order2 (ltc cf) d a b s).2.2 :: Rs) w' d := by
  have HS := Lib.hid S
  have ENT := Lib.hid K.ent
  obtain ⟨x, hx⟩ : ∃ x, x = d[b]! := ⟨_, rfl⟩
  obtain ⟨y, hy⟩ : ∃ y, y = d[a]! := ⟨_, rfl⟩
  obtain ⟨z, hz⟩ : ∃ z, z = cf x y := ⟨_, rfl⟩
  have ASK := Lib.hid (ask_at K HS.out hb ha)
  have CX := Lib.hid (cell_at HS.out hb)
  have CY := Lib.hid (cell_at HS.out ha)
  rw [← hx, ← hy, ← hz] at ASK
  rw [← hx] at CX
  rw [← hy] at CY
  by_cases hlt : ltc cf x y = true
  · have HT := Lib.hid (ltc_t hlt hz)
    have HE := Lib.hid (order2_t (s := s) (by rw [← hx, ← hy]; exact hlt) : Sort.order2 (ltc cf) d a b s = (b, a, s + 1))
    rw [HE.out]
    clear hlt hz hx hy S
    go_enter Try.func70, Try.ntmps70
    go_wp2_with (fail)
    refine wp_lax_list (by kernel_rfl) (by kernel_rfl) (by kernel_rfl) ?_
    refine wpL_move (fvOf f bs cb) rfl (by kernel_rfl) (by kernel_rfl) (by kernel_rfl) (by kernel_rfl) ?_
    refine wpL_move (.slice (some ⟨g, 0, none⟩) n c) rfl (by kernel_rfl) (by kernel_rfl) (by kernel_rfl) (by kernel_rfl) ?_
    refine wpL_move (.int .i64 (b : Int)) rfl (by kernel_rfl) (by kernel_rfl) (by kernel_rfl) (by kernel_rfl) ?_
    refine wpL_run2 (x := .tmp 13) (y := .tmp 14) (.slice (some ⟨g, 0, none⟩) n c) (.int .i64 (b : Int)) (.pointer (some ⟨g, b, none⟩)) (by kernel_rfl) (by kernel_rfl) (by kernel_rfl) (by kernel_rfl) (by kernel_rfl) (by kernel_rfl) (fun wx ρ hwx h0 h1 hc => idx_i rfl hb ρ wx h0 h1) ?_
    refine wpL_run1 (x := .tmp 15) (.pointer (some ⟨g, b, none⟩)) (iV x) (by kernel_rfl) (by kernel_rfl) (by kernel_rfl) (by kernel_rfl) (by kernel_rfl) (fun wx ρ hwx h0 hc => load_i rfl ρ (CX.out wx hwx) h0) ?_
    refine wpL_move (.slice (some ⟨g, 0, none⟩) n c) rfl (by kernel_rfl) (by kernel_rfl) (by kernel_rfl) (by kernel_rfl) ?_
    refine wpL_move (.int .i64 (a : Int)) rfl (by kernel_rfl) (by kernel_rfl) (by kernel_rfl) (by kernel_rfl) ?_
    refine wpL_run2 (x := .tmp 17) (y := .tmp 18) (.slice (some ⟨g, 0, none⟩) n c) (.int .i64 (a : Int)) (.pointer (some ⟨g, a, none⟩)) (by kernel_rfl) (by kernel_rfl) (by kernel_rfl) (by kernel_rfl) (by kernel_rfl) (by kernel_rfl) (fun wx ρ hwx h0 h1 hc => idx_i rfl ha ρ wx h0 h1) ?_
    refine wpL_run1 (x := .tmp 19) (.pointer (some ⟨g, a, none⟩)) (iV y) (by kernel_rfl) (by kernel_rfl) (by kernel_rfl) (by kernel_rfl) (by kernel_rfl) (fun wx ρ hwx h0 hc => load_i rfl ρ (CY.out wx hwx) h0) ?_
    refine wpL_val (.int .i64 z) [iV x, iV y] (by kernel_rfl) (by kernel_rfl) rfl (by kernel_rfl) (by kernel_rfl) (by kernel_rfl) (by kernel_rfl) ENT.out (fun wx hwx => ASK.out wx hwx) ?_
    refine wpL_run1 (x := .tmp 21) (.int .i64 z) (.bool true) (by kernel_rfl) (by kernel_rfl) (by kernel_rfl) (by kernel_rfl) (by kernel_rfl) (fun wx ρ hwx h0 hc => lss_i rfl HT.out ρ wx h0 (hc _)) ?_
    refine wpL_end (by kernel_rfl) (fun w1 hw1 => ?_)
    simp only [FinL, setL, List.set_cons_zero, List.set_cons_succ]
    have S1 := Lib.hid (HS.out.later hw1)
    obtain ⟨k1, k2⟩ := S1.out.cnt
    have S2 := Lib.hid (S1.out.bump (s + 1))
    clear ASK CX CY
    go_wp2
    go_ret2
    exact ⟨rfl, S2.out⟩
  · have hlf : ltc cf x y = false := by simpa using hlt
    have HT := Lib.hid (ltc_t hlf hz)
    have HE := Lib.hid (order2_f (s := s) (by rw [← hx, ← hy]; exact hlt) : Sort.order2 (ltc cf) d a b s = (a, b, s))
    rw [HE.out]
    clear hlt hlf hz hx hy S
    go_enter Try.func70, Try.ntmps70
    go_wp2_with (fail)
    refine wp_lax_list (by kernel_rfl) (by kernel_rfl) (by kernel_rfl) ?_
    refine wpL_move (fvOf f bs cb) rfl (by kernel_rfl) (by kernel_rfl) (by kernel_rfl) (by kernel_rfl) ?_
    refine wpL_move (.slice (some ⟨g, 0, none⟩) n c) rfl (by kernel_rfl) (by kernel_rfl) (by kernel_rfl) (by kernel_rfl) ?_
    refine wpL_move (.int .i64 (b : Int)) rfl (by kernel_rfl) (by kernel_rfl) (by kernel_rfl) (by kernel_rfl) ?_
    refine wpL_run2 (x := .tmp 13) (y := .tmp 14) (.slice (some ⟨g, 0, none⟩) n c) (.int .i64 (b : Int)) (.pointer (some ⟨g, b, none⟩)) (by kernel_rfl) (by kernel_rfl) (by kernel_rfl) (by kernel_rfl) (by kernel_rfl) (by kernel_rfl) (fun wx ρ hwx h0 h1 hc => idx_i rfl hb ρ wx h0 h1) ?_
    refine wpL_run1 (x := .tmp 15) (.pointer (some ⟨g, b, none⟩)) (iV x) (by kernel_rfl) (by kernel_rfl) (by kernel_rfl) (by kernel_rfl) (by kernel_rfl) (fun wx ρ hwx h0 hc => load_i rfl ρ (CX.out wx hwx) h0) ?_
    refine wpL_move (.slice (some ⟨g, 0, none⟩) n c) rfl (by kernel_rfl) (by kernel_rfl) (by kernel_rfl) (by kernel_rfl) ?_
    refine wpL_move (.int .i64 (a : Int)) rfl (by kernel_rfl) (by kernel_rfl) (by kernel_rfl) (by kernel_rfl) ?_
    refine wpL_run2 (x := .tmp 17) (y := .tmp 18) (.slice (some ⟨g, 0, none⟩) n c) (.int .i64 (a : Int)) (.pointer (some ⟨g, a, none⟩)) (by kernel_rfl) (by kernel_rfl) (by kernel_rfl) (by kernel_rfl) (by kernel_rfl) (by kernel_rfl) (fun wx ρ hwx h0 h1 hc => idx_i rfl ha ρ wx h0 h1) ?_
    refine wpL_run1 (x := .tmp 19) (.pointer (some ⟨g, a, none⟩)) (iV y) (by kernel_rfl) (by kernel_rfl) (by kernel_rfl) (by kernel_rfl) (by kernel_rfl) (fun wx ρ hwx h0 hc => load_i rfl ρ (CY.out wx hwx) h0) ?_
    refine wpL_val (.int .i64 z) [iV x, iV y] (by kernel_rfl) (by kernel_rfl) rfl (by kernel_rfl) (by kernel_rfl) (by kernel_rfl) (by kernel_rfl) ENT.out (fun wx hwx => ASK.out wx hwx) ?_
    refine wpL_run1 (x := .tmp 21) (.int .i64 z) (.bool false) (by kernel_rfl) (by kernel_rfl) (by kernel_rfl) (by kernel_rfl) (by kernel_rfl) (fun wx ρ hwx h0 hc => lss_i rfl HT.out ρ wx h0 (hc _)) ?_
    refine wpL_end (by kernel_rfl) (fun w1 hw1 => ?_)
    simp only [FinL, setL, List.set_cons_zero, List.set_cons_succ]
    have S1 := Lib.hid (HS.out.later hw1)
    clear ASK CX CY
    go_wp2
    go_ret2
    exact ⟨rfl, S1.out⟩
theorem order2_in {lt : Nat → Nat → Bool} {a b : Nat} (ha : a < n) (hb : b < n) : (Sort.order2 lt d a b s).1 < n ∧ (Sort.order2 lt d a b s).2.1 < n := by
  rcases Sort.order2_mem lt d a b s with ⟨h1, h2⟩ | ⟨h1, h2⟩ <;> rw [h1, h2] <;> exact ⟨by omega, by omega⟩
set_option maxHeartbeats 4000000 in
theorem median_any (K : Cmp f bs cb cf Ok B w0 Ts) (S : Sd Ok B w0 Ts g n c (cntA bx s :: Rs) w d) (a b e : Nat) (ha : a < n) (hb : b < n) (he : e < n) (hs : s ≤ 900) :
    Calls Try.prog 69 #[.slice (some ⟨g, 0, none⟩) n c, .int .i64 (a : Int), .int .i64 (b : Int), .int .i64 (e : Int), .pointer (some ⟨bx, 0, none⟩), fvOf f bs cb] w fun r w' =>
      r = .returned (iV (Sort.median (ltc cf) d a b e s).1) ∧ Sd Ok B w0 Ts g n c (cntA bx (Sort.median (ltc cf) d a b e s).2 :: Rs) w' d := by
  have KK := Lib.hid (fun (w : World) (s : Nat) (S : Sd Ok B w0 Ts g n c (cntA bx s :: Rs) w d) (a b : Nat) (ha : a < n) (hb : b < n) (hs : s ≤ 1000) => order2_any K S a b ha hb hs)
  have C1 := Lib.hid (KK.out _ _ S a b ha hb (by omega))
  obtain ⟨⟨x1, y1, s1⟩, h1⟩ : ∃ r, r = Sort.order2 (ltc cf) d a b s := ⟨_, rfl⟩
  have i1 := order2_in (lt := ltc cf) (d := d) (s := s) ha hb
  have t1 := Sort.order2_count (ltc cf) d a b s
  rw [← h1] at C1 i1 t1
  obtain ⟨⟨x2, y2, s2⟩, h2⟩ : ∃ r, r = Sort.order2 (ltc cf) d y1 e s1 := ⟨_, rfl⟩
  have i2 := order2_in (lt := ltc cf) (d := d) (s := s1) i1.2 he
  have t2 := Sort.order2_count (ltc cf) d y1 e s1
  rw [← h2] at i2 t2
  obtain ⟨⟨x3, y3, s3⟩, h3⟩ : ∃ r, r = Sort.order2 (ltc cf) d x1 x2 s2 := ⟨_, rfl⟩
  have HM : Hid (Sort.median (ltc cf) d a b e s = (y3, s3)) := by
    show _ = _
    unfold Sort.median
    simp only
    rw [← h1, ← h2, ← h3]
  simp only at i1 i2 t1 t2
  obtain ⟨ix1, iy1⟩ := i1
  obtain ⟨ix2, iy2⟩ := i2
  rw [HM.out]
  have H2 := Lib.hid h2
  have H3 := Lib.hid h3
  have hs1 : s1 ≤ 1000 := by omega
  have hs2 : s2 ≤ 1000 := by omega
  clear h1 h2 h3 S K t1 t2
  go_enter Try.func69, Try.ntmps69
  go_wp2_with (fail)
  refine C1.out.mono ?_
  clear C1
  rintro e1 w1 ⟨rfl, h⟩
  have C2 := Lib.hid (KK.out _ _ h y1 e iy1 he hs1)
  rw [← H2.out] at C2
  clear h
  go_wp2_with (fail)
  refine C2.out.mono ?_
  clear C2
  rintro e2 w2 ⟨rfl, h⟩
  have C3 := Lib.hid (KK.out _ _ h x1 x2 ix1 ix2 hs2)
  rw [← H3.out] at C3
  clear h
  go_wp2_with (fail)
  refine C3.out.mono ?_
  clear C3
  rintro e3 w3 ⟨rfl, h⟩
  have H9 := Lib.hid h
  clear h
  go_wp2
  go_ret
  exact ⟨rfl, H9.out⟩
set_option maxHeartbeats 4000000 in
theorem medianAdj_any (K : Cmp f bs cb cf Ok B w0 Ts) (S : Sd Ok B w0 Ts g n c (cntA bx s :: Rs) w d) (a : Nat) (ha : 1 ≤ a) (hb : a + 1 < n) (hn : n ≤ 100000) (hs : s ≤ 900) :
    Calls Try.prog 68 #[.slice (some ⟨g, 0, none⟩) n c, .int .i64 (a : Int), .pointer (some ⟨bx, 0, none⟩), fvOf f bs cb] w fun r w' =>
      r = .returned (iV (Sort.medianAdjacent (ltc cf) d a s).1) ∧ Sd Ok B w0 Ts g n c (cntA bx (Sort.medianAdjacent (ltc cf) d a s).2 :: Rs) w' d := by
  have C1 := Lib.hid (median_any K S (a - 1) a (a + 1) (by omega) (by omega) hb hs)
  obtain ⟨⟨r, s2⟩, hr⟩ : ∃ r, r = Sort.medianAdjacent (ltc cf) d a s := ⟨_, rfl⟩
  have hr2 : (r, s2) = Sort.median (ltc cf) d (a - 1) a (a + 1) s := hr
  rw [← hr2] at C1
  rw [← hr]
  obtain ⟨p, hp⟩ : ∃ p, a = p + 1 := ⟨a - 1, by omega⟩
  have e0 : a - 1 = p := by omega
  rw [e0] at C1
  obtain ⟨q, hq⟩ : ∃ q, q = a + 1 := ⟨_, rfl⟩
  rw [← hq] at C1
  have s1 : (a : Int) - 1 = (p : Int) := by omega
  have s2' : (a : Int) + 1 = (q : Int) := by omega
  clear S K hr hr2 hp e0 hq
  go_enter Try.func68, Try.ntmps68
  go_wp2_with (fail)
  refine C1.out.mono ?_
  clear C1
  rintro e1 w1 ⟨rfl, h⟩
  have H9 := Lib.hid h
  clear h
  go_wp2
  go_ret
  exact ⟨rfl, H9.out⟩
def hintV : Sort.Hint → Value
  | .unknown => .int .i64 0
  | .increasing => .int .i64 1
  | .decreasing => .int .i64 2
theorem Sd.boxC (S : Sd Ok B w0 Ts g n c Rs w d) : Sd Ok B w0 Ts g n c (cntA w.heap.size 0 :: Rs) (w.alloc (.cells #[iV 0] 3)) d :=
  ⟨(S.st.boxV 3 [iV 0]).swap2, S.size, S.ok⟩
theorem Sd.dropC (S : Sd Ok B w0 Ts g n c (cntA bx s :: Rs) w d) : Sd Ok B w0 Ts g n c Rs w d := ⟨S.st.drop2, S.size, S.ok⟩
set_option maxRecDepth 4000 in
set_option maxHeartbeats 8000000 in
theorem choose_any (K : Cmp f bs cb cf Ok B w0 Ts) (S : Sd Ok B w0 Ts g n c Rs w d) (a b : Nat) (hab : a + 12 < b) (hb : b ≤ n) (hn : n ≤ 100000) :
    Calls Try.prog 55 #[.slice (some ⟨g, 0, none⟩) n c, .int .i64 (a : Int), .int .i64 (b : Int), fvOf f bs cb] w fun r w' =>
      r = .returned (.tuple #[iV (Sort.choosePivot (ltc cf) d a b).1, hintV (Sort.choosePivot (ltc cf) d a b).2]) ∧ Sd Ok B w0 Ts g n c Rs w' d := by
  have KM := Lib.hid (fun (w : World) (bx s : Nat) (S : Sd Ok B w0 Ts g n c (cntA bx s :: Rs) w d) (a b e : Nat) (ha : a < n) (hb : b < n) (he : e < n) (hs : s ≤ 900) => median_any K S a b e ha hb he hs)
  have KA := Lib.hid (fun (w : World) (bx s : Nat) (S : Sd Ok B w0 Ts g n c (cntA bx s :: Rs) w d) (a : Nat) (ha : 1 ≤ a) (hb : a + 1 < n) (hs : s ≤ 900) => medianAdj_any K S a ha hb hn hs)
  obtain ⟨l, hl⟩ : ∃ l, l = b - a := ⟨_, rfl⟩
  obtain ⟨q, hq⟩ : ∃ q, q = l / 4 := ⟨_, rfl⟩
  obtain ⟨i, hi⟩ : ∃ i, i = a + q * 1 := ⟨_, rfl⟩
  obtain ⟨j, hj⟩ : ∃ j, j = a + q * 2 := ⟨_, rfl⟩
  obtain ⟨k, hk⟩ : ∃ k, k = a + q * 3 := ⟨_, rfl⟩
  have hl2 : (b : Int) - (a : Int) = (l : Int) := by omega
  have hq2 : (l : Int).tdiv 4 = (q : Int) := by rw [hq]; rfl
  have hi2 : (a : Int) + (q : Int) = (i : Int) := by omega
  have hj2 : (a : Int) + (q : Int) * 2 = (j : Int) := by omega
  have hk2 : (a : Int) + (q : Int) * 3 = (k : Int) := by omega
  have hqb : q ≤ 100000 := by omega
  have hlb : l ≤ 100000 := by omega
  have hib : 1 ≤ i ∧ i + 1 < n := by omega
  have hjb : 1 ≤ j ∧ j + 1 < n := by omega
  have hkb : 1 ≤ k ∧ k + 1 < n := by omega
  have hl8 : (8 : Int) ≤ (l : Int) := by omega
  have h0 := Lib.hid S.boxC
  have HCP : Hid (Sort.choosePivot (ltc cf) d a b = (let r : Nat × Nat := if l ≥ 50 then Sort.median (ltc cf) d (Sort.medianAdjacent (ltc cf) d i 0).1 (Sort.medianAdjacent (ltc cf) d j (Sort.medianAdjacent (ltc cf) d i 0).2).1 (Sort.medianAdjacent (ltc cf) d k (Sort.medianAdjacent (ltc cf) d j (Sort.medianAdjacent (ltc cf) d i 0).2).2).1 (Sort.medianAdjacent (ltc cf) d k (Sort.medianAdjacent (ltc cf) d j (Sort.medianAdjacent (ltc cf) d i 0).2).2).2 else Sort.median (ltc cf) d i j k 0; (r.1, if r.2 = 0 then .increasing else if r.2 = 12 then .decreasing else .unknown))) := by
    show _ = _
    unfold Sort.choosePivot
    simp only
    rw [← hl, ← hq, ← hi, ← hj, ← hk, if_pos (by omega : l ≥ 8)]
  rw [HCP.out]
  have hanM : ∀ (d : Array Nat) (a b e s : Nat), a < n → b < n → e < n → (Sort.median (ltc cf) d a b e s).1 < n := by
    intro d a b e s ha hb he
    rcases Sort.median_mem (ltc cf) d a b e s with h | h | h <;> rw [h] <;> assumption
  have hanA : ∀ (d : Array Nat) (a s : Nat), 1 ≤ a → a + 1 < n → (Sort.medianAdjacent (ltc cf) d a s).1 < n := by
    intro d a s h1 h2
    rcases Sort.medianAdjacent_mem (ltc cf) d a s with h | h | h <;> rw [h] <;> omega
  obtain ⟨hi1, hin⟩ := hib
  obtain ⟨hj1, hjn⟩ := hjb
  obtain ⟨hk1, hkn⟩ := hkb
  by_cases h50 : 50 ≤ l
  · rw [if_pos h50]
    have h50' : (50 : Int) ≤ (l : Int) := by omega
    obtain ⟨⟨ri, si⟩, e1⟩ : ∃ r, r = Sort.medianAdjacent (ltc cf) d i 0 := ⟨_, rfl⟩
    have b1 := hanA d i 0 hi1 hin
    have t1 := Sort.medianAdjacent_count (ltc cf) d i 0
    rw [← e1] at b1 t1 ⊢
    obtain ⟨⟨rj, sj⟩, e2⟩ : ∃ r, r = Sort.medianAdjacent (ltc cf) d j si := ⟨_, rfl⟩
    have b2 := hanA d j si hj1 hjn
    have t2 := Sort.medianAdjacent_count (ltc cf) d j si
    simp only at b1 t1 ⊢
    rw [← e2] at b2 t2 ⊢
    obtain ⟨⟨rk, sk⟩, e3⟩ : ∃ r, r = Sort.medianAdjacent (ltc cf) d k sj := ⟨_, rfl⟩
    have b3 := hanA d k sj hk1 hkn
    have t3 := Sort.medianAdjacent_count (ltc cf) d k sj
    simp only at b2 t2 ⊢
    rw [← e3] at b3 t3 ⊢
    obtain ⟨⟨rm, sm⟩, e4⟩ : ∃ r, r = Sort.median (ltc cf) d ri rj rk sk := ⟨_, rfl⟩
    have t4 := Sort.median_count (ltc cf) d ri rj rk sk
    simp only at b3 t3 ⊢
    rw [← e4] at t4 ⊢
    simp only at t4 ⊢
    have E1 := Lib.hid e1
    have E2 := Lib.hid e2
    have E3 := Lib.hid e3
    have E4 := Lib.hid e4
    have hsi : si ≤ 900 := by omega
    have hsj : sj ≤ 900 := by omega
    have hsk : sk ≤ 900 := by omega
    have hsm : sm ≤ 12 := by omega
    clear e1 e2 e3 e4 t1 t2 t3 t4 HCP S K hq hl hi hj hk hanM hanA
    go_enter Try.func55, Try.ntmps55
    go_wp2_with (fail)
    have C1 := Lib.hid (KA.out _ _ _ h0.out i hi1 hin (by omega))
    rw [← E1.out] at C1
    refine C1.out.mono ?_
    clear C1
    rintro e1 w1 ⟨rfl, h⟩
    have C2 := Lib.hid (KA.out _ _ _ h j hj1 hjn hsi)
    rw [← E2.out] at C2
    clear h h0
    go_wp2_with (fail)
    refine C2.out.mono ?_
    clear C2
    rintro e2 w2 ⟨rfl, h⟩
    have C3 := Lib.hid (KA.out _ _ _ h k hk1 hkn hsj)
    rw [← E3.out] at C3
    clear h
    go_wp2_with (fail)
    refine C3.out.mono ?_
    clear C3
    rintro e3 w3 ⟨rfl, h⟩
    have C4 := Lib.hid (KM.out _ _ _ h ri rj rk b1 b2 b3 hsk)
    rw [← E4.out] at C4
    clear h
    go_wp2_with (fail)
    refine C4.out.mono ?_
    clear C4
    rintro e4 w4 ⟨rfl, h⟩
    have cc := h.cnt.1
    have H9 := Lib.hid h.dropC
    clear h
    by_cases z0 : sm = 0
    · subst z0
      go_wp2
      go_ret2
      exact ⟨rfl, H9.out⟩
    · have d0 : ((sm : Int) == 0) = false := by simp; omega
      have Z0 := Lib.hid z0
      by_cases z1 : sm = 12
      · subst z1
        clear z0
        go_wp2
        go_ret2
        exact ⟨rfl, H9.out⟩
      · have d1 : ((sm : Int) == 12) = false := by simp; omega
        have Z1 := Lib.hid z1
        clear z0 z1
        go_wp2
        go_ret2
        exact ⟨rfl, H9.out⟩
  · rw [if_neg h50]
    have h50' : ¬ (50 : Int) ≤ (l : Int) := by omega
    obtain ⟨⟨rm, sm⟩, e4⟩ : ∃ r, r = Sort.median (ltc cf) d i j k 0 := ⟨_, rfl⟩
    have t4 := Sort.median_count (ltc cf) d i j k 0
    rw [← e4] at t4 ⊢
    simp only at t4 ⊢
    have E4 := Lib.hid e4
    have hsm : sm ≤ 12 := by omega
    clear e4 t4 HCP S K hq hl hi hj hk hanM hanA KA
    go_enter Try.func55, Try.ntmps55
    go_wp2_with (fail)
    have C4 := Lib.hid (KM.out _ _ _ h0.out i j k (by omega) (by omega) (by omega) (by omega))
    rw [← E4.out] at C4
    refine C4.out.mono ?_
    clear C4
    rintro e4 w4 ⟨rfl, h⟩
    have cc := h.cnt.1
    have H9 := Lib.hid h.dropC
    clear h h0
    by_cases z0 : sm = 0
    · subst z0
      go_wp2
      go_ret2
      exact ⟨rfl, H9.out⟩
    · have d0 : ((sm : Int) == 0) = false := by simp; omega
      have Z0 := Lib.hid z0
      by_cases z1 : sm = 12
      · subst z1
        clear z0
        go_wp2
        go_ret2
        exact ⟨rfl, H9.out⟩
      · have d1 : ((sm : Int) == 12) = false := by simp; omega
        have Z1 := Lib.hid z1
        clear z0 z1
        go_wp2
        go_ret2
        exact ⟨rfl, H9.out⟩
end
end Srt
end Go.Proofs.Ytlgfddpgmpabcaa

end
section
namespace Go.Proofs.Ytlgfddpgmpabcaa
open Go.RowKit Go.Own
namespace Srt
theorem geq_q {o : Oper} {X Y : Operand} (ho : o.op = .binOp .geq 34 X Y 34) {a b : Int} {t : Bool} (ht : decide (b ≤ a) = t) (ρ : Operand → Value) (w : World) (h0 : ρ X = .int .u64 a) (h1 : ρ Y = .int .u64 b) : (execOp ρ o).run Try.prog w = .ok (.value (.bool t)) w := by
  subst ht
  simp [execOp, ho, h0, h1, go_sem]
set_option maxRecDepth 100000 in
set_option maxHeartbeats 4000000 in
theorem len64_any (n : Nat) (hn : n ≤ 100000) (w : World) : Calls Try.prog 61 #[.int .u64 (n : Int)] w fun e w' => e = .returned (.int .i64 (Lib.bitLen n : Nat)) ∧ w' = w := by
  have G1 : Hid (decide ((4294967296 : Int) ≤ (n : Int)) = false) := decide_eq_false (by omega)
  by_cases h1 : n < 256
  · have G2 : Hid (decide ((65536 : Int) ≤ (n : Int)) = false) := decide_eq_false (by omega)
    have G3 : Hid (decide ((256 : Int) ≤ (n : Int)) = false) := decide_eq_false (by omega)
    have H1 := Lib.hid h1
    clear h1 hn
    go_enter Try.func61, Try.ntmps61
    go_wp2_with (first
      | (refine Byt.wpList_val rfl (geq_q (X := .tmp 3) rfl G1.out _ _ rfl rfl) ?_)
      | (refine Byt.wpList_val rfl (geq_q (X := .tmp 7) rfl G2.out _ _ rfl rfl) ?_)
      | (refine Byt.wpList_val rfl (geq_q (X := .tmp 13) rfl G3.out _ _ rfl rfl) ?_))
    go_ret
    refine ⟨congrArg Ending.returned (congrArg (Value.int IntKind.i64) ?_), rfl⟩
    have h1 := H1.out
    rw [Lib.len8_of ((n : Int) % 256) (by omega) (by omega)]
    have l := Lib.bitLen_le8' ((n : Int) % 256) (by omega) (by omega)
    have e : ((n : Int) % 256).toNat = n := by omega
    rw [e] at l ⊢
    obtain ⟨z, hz⟩ : ∃ z, z = Lib.bitLen n := ⟨_, rfl⟩
    rw [← hz] at l ⊢
    clear hz e
    first | omega | go_num | (unfold wrap64; omega)
  · by_cases h2 : n < 65536
    · have G2 : Hid (decide ((65536 : Int) ≤ (n : Int)) = false) := decide_eq_false (by omega)
      have G3 : Hid (decide ((256 : Int) ≤ (n : Int)) = true) := decide_eq_true (by omega)
      have H1 := Lib.hid h1
      have H2 := Lib.hid h2
      clear h1 hn h2
      go_enter Try.func61, Try.ntmps61
      go_wp2_with (first
        | (refine Byt.wpList_val rfl (geq_q (X := .tmp 3) rfl G1.out _ _ rfl rfl) ?_)
        | (refine Byt.wpList_val rfl (geq_q (X := .tmp 7) rfl G2.out _ _ rfl rfl) ?_)
        | (refine Byt.wpList_val rfl (geq_q (X := .tmp 13) rfl G3.out _ _ rfl rfl) ?_))
      go_ret
      refine ⟨congrArg Ending.returned (congrArg (Value.int IntKind.i64) ?_), rfl⟩
      have h1 := H1.out
      have h2 := H2.out
      rw [Lib.len8_of ((n : Int) / 256 % 256) (by omega) (by omega)]
      have l := Lib.bitLen_le8' ((n : Int) / 256 % 256) (by omega) (by omega)
      have s := Lib.bitLen_shift8 n (by omega) (by omega)
      have e : ((n : Int) / 256 % 256).toNat = n / 256 := by omega
      rw [e] at l ⊢
      rw [s]
      obtain ⟨z, hz⟩ : ∃ z, z = Lib.bitLen (n / 256) := ⟨_, rfl⟩
      rw [← hz] at l ⊢
      clear hz e s
      first | omega | go_num | (unfold wrap64; omega)
    · have g2 : (65536 : Int) ≤ (n : Int) := by omega
      have g1 : ¬ (4294967296 : Int) ≤ (n : Int) := by omega
      have g4 : (n : Int) / 65536 = 1 := by omega
      have H2 := Lib.hid h2
      have HN := Lib.hid hn
      go_enter Try.func61, Try.ntmps61
      go_wp2
      go_ret
      refine ⟨congrArg Ending.returned (congrArg (Value.int IntKind.i64) ?_), rfl⟩
      have s := Lib.bitLen_shift16 n (by omega) (by omega)
      have e : n / 65536 = 1 := by have := HN.out; omega
      rw [e] at s
      rw [s, Lib.len8_of 1 (by omega) (by omega)]
      have l : Lib.bitLen 1 ≤ 8 := Lib.bitLen_le8' 1 (by omega) (by omega)
      have e2 : Int.toNat 1 = 1 := rfl
      rw [e2]
      obtain ⟨z, hz⟩ : ∃ z, z = Lib.bitLen 1 := ⟨_, rfl⟩
      rw [← hz] at l ⊢
      clear hz s e e2
      first | omega | go_num | (unfold wrap64; omega)
set_option maxHeartbeats 4000000 in
theorem next_any (rb X : Nat) (hX : X < 18446744073709551616) (w : World) (hc : w.cell? ⟨rb, 0, none⟩ = some (.int .u64 (X : Int))) (hf : w.frozen? ⟨rb, 0, none⟩ = false) :
    Calls Try.prog 67 #[.pointer (some ⟨rb, 0, none⟩)] w fun e w' => e = .returned (.int .u64 (Sort.xorNextN X : Nat)) ∧ w' = (w.setCell ⟨rb, 0, none⟩ (.int .u64 (Sort.xorNextN X : Nat))).drewN 3 := by
  obtain ⟨a, ha⟩ : ∃ a : Nat, a = X ^^^ (X * 8192 % 18446744073709551616) := ⟨_, rfl⟩
  obtain ⟨b, hb⟩ : ∃ b : Nat, b = a ^^^ (a / 128) := ⟨_, rfl⟩
  obtain ⟨c, hcc⟩ : ∃ c : Nat, c = b ^^^ (b * 131072 % 18446744073709551616) := ⟨_, rfl⟩
  have la : a < 18446744073709551616 := by rw [ha]; exact Nat.xor_lt_two_pow (n := 64) (by omega) (by omega)
  have lb : b < 18446744073709551616 := by rw [hb]; exact Nat.xor_lt_two_pow (n := 64) (by omega) (by omega)
  have x1 : bits .xor .u64 (X : Int) (IntKind.u64.wrap ((X : Int) * 8192)) = (a : Int) := by
    have e : IntKind.u64.wrap ((X : Int) * 8192) = ((X * 8192 % 18446744073709551616 : Nat) : Int) := by rw [IntKind.wrap_u64]; omega
    rw [e, bits_xor_u64_nat _ _ hX (by omega), ha]
  have x2 : bits .xor .u64 (a : Int) ((a : Int) / 128) = (b : Int) := by
    have e : ((a : Int) / 128) = ((a / 128 : Nat) : Int) := by omega
    rw [e, bits_xor_u64_nat _ _ la (by omega), hb]
  have x3 : bits .xor .u64 (b : Int) (IntKind.u64.wrap ((b : Int) * 131072)) = (c : Int) := by
    have e : IntKind.u64.wrap ((b : Int) * 131072) = ((b * 131072 % 18446744073709551616 : Nat) : Int) := by rw [IntKind.wrap_u64]; omega
    rw [e, bits_xor_u64_nat _ _ lb (by omega), hcc]
  have hv : Sort.xorNextN X = c := by unfold Sort.xorNextN; simp only []; rw [← ha, ← hb, ← hcc]
  rw [hv]
  clear ha hb hcc hv
  have hs : ∀ v v', (w.setCell ⟨rb, 0, none⟩ v).setCell ⟨rb, 0, none⟩ v' = w.setCell ⟨rb, 0, none⟩ v' := setCell_setCell w rb 0
  go_enter Try.func67, Try.ntmps67
  go_wp2
  go_region
  all_goals go_wp2
  all_goals go_region
  all_goals go_wp2
  all_goals go_region
  all_goals go_wp2
  go_ret
  exact ⟨rfl, rfl⟩
theorem len_any (n : Nat) (hn : n ≤ 100000) (w : World) : Calls Try.prog 46 #[.int .u64 (n : Int)] w fun e w' => e = .returned (iV (Lib.bitLen n)) ∧ w' = w := by
  have CC := Lib.hid (len64_any n hn w)
  obtain ⟨z, hz⟩ : ∃ z, z = Lib.bitLen n := ⟨_, rfl⟩
  rw [← hz] at CC ⊢
  clear hz
  go_enter Try.func46, Try.ntmps46
  go_wp2_with (fail)
  refine CC.out.mono ?_
  rintro e w' ⟨rfl, rfl⟩
  go_wp2
  go_ret
  exact ⟨rfl, rfl⟩
theorem pow_any (n : Nat) (hn : n ≤ 100000) (w : World) : Calls Try.prog 66 #[.int .i64 (n : Int)] w fun e w' => e = .returned (.int .u64 ((1 <<< Sort.bitsLen n : Nat) : Int)) ∧ w' = w := by
  have hk : Sort.bitsLen n ≤ 62 := (Sort.bitsLen_le_iff n 62).2 (by omega)
  have CC := Lib.hid (len_any n hn w)
  rw [bitLen_eq n (by omega)] at CC
  have hp := wrap_two_pow (Sort.bitsLen n) hk
  have wr : IntKind.u64.wrap (n : Int) = n := by simp [IntKind.wrap, IntKind.bits, IntKind.signed]; omega
  go_enter Try.func66, Try.ntmps66
  go_wp2_with (fail)
  refine CC.out.mono ?_
  rintro e w' ⟨rfl, rfl⟩
  go_wp2
  go_ret
  exact ⟨rfl, rfl⟩
end Srt
end Go.Proofs.Ytlgfddpgmpabcaa

end
section
namespace Go.Proofs.Ytlgfddpgmpabcaa
open Go.RowKit Go.Own
namespace Srt
/-- the register of breakPatterns -/
abbrev regA (bx X : Nat) : Asn := AVals bx 95 [.int .u64 (X : Int)]
/-- the state behind so many rounds -/
def bpS (a l m i0 : Nat) (st : UInt64 × Array Nat) : Nat → UInt64 × Array Nat
  | 0 => st
  | k + 1 => Sort.breakStep a l m (bpS a l m i0 st k) (i0 + k)
theorem break_eq (d : Array Nat) (a b l : Nat) (hl : l = b - a) (h8 : 8 ≤ l) : Sort.breakPatterns d a b = (bpS a l (1 <<< Sort.bitsLen l) (a + l / 4 * 2 - 1) (UInt64.ofNat l, d) 3).2 := by
  subst hl
  unfold Sort.breakPatterns
  simp only
  rw [if_pos h8]
  rfl
section
variable {Ok : Nat → Prop} {B : Nat} {w0 w : World} {Ts Rs : List Asn} {g n c bx X : Nat} {d : Array Nat}
theorem Sd.regC (S : Sd Ok B w0 Ts g n c (regA bx X :: Rs) w d) : w.cell? ⟨bx, 0, none⟩ = some (.int .u64 (X : Int)) ∧ w.frozen? ⟨bx, 0, none⟩ = false := S.st.cellV 1 rfl 0 rfl
theorem Sd.regS (S : Sd Ok B w0 Ts g n c (regA bx X :: Rs) w d) (Y : Nat) : Sd Ok B w0 Ts g n c (regA bx Y :: Rs) (w.setCell ⟨bx, 0, none⟩ (.int .u64 (Y : Int))) d :=
  ⟨S.st.storeV 1 rfl 0 (.int .u64 (Y : Int)), S.size, S.ok⟩
theorem Sd.regBox (S : Sd Ok B w0 Ts g n c Rs w d) (X : Nat) : Sd Ok B w0 Ts g n c (regA w.heap.size X :: Rs) (w.alloc (.cells #[.int .u64 (X : Int)] 95)) d :=
  ⟨(S.st.boxV 95 [.int .u64 (X : Int)]).swap2, S.size, S.ok⟩
theorem Sd.regDrop (S : Sd Ok B w0 Ts g n c (regA bx X :: Rs) w d) : Sd Ok B w0 Ts g n c Rs w d := ⟨S.st.drop2, S.size, S.ok⟩
theorem Sd.drewN (S : Sd Ok B w0 Ts g n c Rs w d) (k : Nat) : Sd Ok B w0 Ts g n c Rs (w.drewN k) d := ⟨S.st.drewN k, S.size, S.ok⟩
set_option maxHeartbeats 8000000 in
theorem break_any (S : Sd Ok B w0 Ts g n c Rs w d) (a b : Nat) (hab : a + 12 < b) (hb : b ≤ n) (hn : n ≤ 100000) (fv : Value) :
    Calls Try.prog 54 #[.slice (some ⟨g, 0, none⟩) n c, .int .i64 (a : Int), .int .i64 (b : Int), fv] w fun e w' => e = .returned (.tuple #[]) ∧ Sd Ok B w0 Ts g n c Rs w' (Sort.breakPatterns d a b) := by
  obtain ⟨l, hl⟩ : ∃ l, l = b - a := ⟨_, rfl⟩
  obtain ⟨m, hm⟩ : ∃ m, m = 1 <<< Sort.bitsLen l := ⟨_, rfl⟩
  have hm1 : 1 ≤ m := by rw [hm, Nat.one_shiftLeft]; exact Nat.two_pow_pos _
  have hm2 : m ≤ 2 * l := by rw [hm, Nat.one_shiftLeft]; exact Sort.two_pow_bitsLen_le (by omega)
  obtain ⟨q, hq⟩ : ∃ q, q = l / 4 := ⟨_, rfl⟩
  obtain ⟨i0, hi0⟩ : ∃ i, i = a + q * 2 - 1 := ⟨_, rfl⟩
  obtain ⟨ST, hST⟩ : ∃ f : Nat → UInt64 × Array Nat, f = bpS a l m i0 (UInt64.ofNat l, d) := ⟨_, rfl⟩
  have HEQ : Hid (Sort.breakPatterns d a b = (ST 3).2) := by show _ = _; rw [break_eq d a b l hl (by omega), hST, hm, hi0, hq]
  have HS0 : Hid (ST 0 = (UInt64.ofNat l, d)) := by rw [hST]; exact rfl
  have HSS : Hid (∀ k, ST (k + 1) = Sort.breakStep a l m (ST k) (i0 + k)) := by rw [hST]; exact fun k => rfl
  have NP : Hid (∀ W, Calls Try.prog 66 #[.int .i64 (l : Int)] W fun e w' => e = .returned (.int .u64 (m : Int)) ∧ w' = W) := by
    intro W
    have h := pow_any l (by omega) W
    rw [hm]
    exact h
  have hl2 : (b : Int) - (a : Int) = (l : Int) := by omega
  have hq2 : (l : Int).tdiv 4 = (q : Int) := by rw [hq]; rfl
  have hqs : (a : Int) + (q : Int) * 2 - 1 = (i0 : Int) := by omega
  obtain ⟨i2, hi2⟩ : ∃ i, i = i0 + 2 := ⟨_, rfl⟩
  have hqt : (a : Int) + (q : Int) * 2 + 1 = (i2 : Int) := by omega
  have hqb : q ≤ 100000 := by omega
  have hlb : l ≤ 100000 := by omega
  have hl8 : (8 : Int) ≤ (l : Int) := by omega
  have hin : i2 < n := by omega
  have hal : a + l ≤ n := by omega
  have hmb : m ≤ 200000 := by omega
  have HI2 := Lib.hid hi2
  have h0 := Lib.hid (S.regBox l)
  have HL : Hid ((UInt64.ofNat l).toNat = l) := by show _ = _; simp; omega
  clear S hm hST hq hi0 hl hi2
  go_enter Try.func54, Try.ntmps54
  go_wp2_with (fail)
  refine (NP.out _).mono ?_
  rintro e w1 ⟨rfl, rfl⟩
  go_wp2
  obtain ⟨bx, hbx⟩ : ∃ b, b = w.heap.size := ⟨_, rfl⟩
  rw [← hbx] at h0 ⊢
  clear hbx
  go_loopw [11] (fun v11 wr => ∃ (k i : Nat), k ≤ 3 ∧ i = i0 + k ∧ v11 = .int .i64 (i : Int) ∧ Sd Ok B w0 Ts g n c (regA bx (ST k).1.toNat :: Rs) wr (ST k).2) (fun v11 _ => i2 + 1 - (intOf v11).toNat)
  case atStart => exact ⟨0, i0, by omega, rfl, rfl, by rw [HS0.out, HL.out]; exact h0.out⟩
  case round =>
    obtain ⟨k, i, hk, hi, rfl, hs⟩ := hrel
    have HK := Lib.hid hs
    clear hs h0
    by_cases hk3 : k < 3
    · have HI := Lib.hid hi
      have hle : (i : Int) ≤ (i2 : Int) := by have := HI2.out; omega
      have hiN : i < n := by omega
      obtain ⟨X, hX⟩ : ∃ X, X = (ST k).1.toNat := ⟨_, rfl⟩
      have hXl : X < 18446744073709551616 := by rw [hX]; exact (ST k).1.toNat_lt
      obtain ⟨dk, hdk⟩ : ∃ d, d = (ST k).2 := ⟨_, rfl⟩
      rw [← hX, ← hdk] at HK
      obtain ⟨Y, hY⟩ : ∃ Y, Y = Sort.xorNextN X := ⟨_, rfl⟩
      have hYl : Y < 18446744073709551616 := by rw [hY]; exact Sort.xorNextN_lt X hXl
      obtain ⟨O, hO⟩ : ∃ O : Nat, O = Y &&& (m - 1) := ⟨_, rfl⟩
      have lO : O ≤ m - 1 := by rw [hO]; exact Nat.and_le_right
      have eAnd : bits .and .u64 (Y : Int) ((m : Int) - 1) = (O : Int) := by
        rw [show ((m : Int) - 1) = ((m - 1 : Nat) : Int) by omega, bits_and_u64_nat _ _ hYl (by omega), hO]
      obtain ⟨cR, fR⟩ := HK.out.regC
      have HNX : Hid (Calls Try.prog 67 #[.pointer (some ⟨bx, 0, none⟩)] wr fun e w' => e = .returned (.int .u64 (Y : Int)) ∧ w' = (wr.setCell ⟨bx, 0, none⟩ (.int .u64 (Y : Int))).drewN 3) := by
        show Calls _ _ _ _ _
        rw [hY]
        exact next_any bx X hXl wr cR fR
      have eN : Y = (Sort.xorNext (ST k).1).toNat := by rw [Sort.xorNext_toNat, ← hX, hY]
      have HX := Lib.hid ((HK.out.regS Y).drewN 3)
      have HSK : Hid (ST (k + 1) = (Sort.xorNext (ST k).1, Sort.swp dk i (a + if O ≥ l then O - l else O))) := by
        show _ = _
        rw [HSS.out, Sort.breakStep]
        rw [← eN, ← hO, ← hdk, ← HI.out]
      clear hX hdk hY hO cR fR HK hi
      have EN := Lib.hid eN
      clear eN
      by_cases hge : l ≤ O
      · obtain ⟨uu, hu⟩ : ∃ u, u = O - l := ⟨_, rfl⟩
        obtain ⟨e1, he1⟩ : ∃ e, e = a + uu := ⟨_, rfl⟩
        have he1n : e1 < n := by omega
        have hgeI : (l : Int) ≤ (O : Int) := by omega
        have huI : (O : Int) - (l : Int) = (uu : Int) := by omega
        have hub : uu ≤ 200000 := by omega
        have HST1 : Hid (ST (k + 1) = (Sort.xorNext (ST k).1, Sort.swp dk i e1)) := by show _ = _; rw [HSK.out, if_pos hge, ← hu, ← he1]
        clear hu
        have H1e : Hid ((Sort.xorNext (ST k).1).toNat = Y) := EN.out.symm
        clear HSK
        go_wp2_with (fail)
        refine HNX.out.mono ?_
        clear HNX
        rintro e w2 ⟨rfl, rfl⟩
        obtain ⟨w2, hw2⟩ : ∃ w2, w2 = (wr.setCell ⟨bx, 0, none⟩ (.int .u64 (Y : Int))).drewN 3 := ⟨_, rfl⟩
        rw [← hw2] at HX ⊢
        clear hw2
        obtain ⟨xi, hxi⟩ : ∃ x, x = dk[i]! := ⟨_, rfl⟩
        obtain ⟨xj, hxj⟩ : ∃ x, x = dk[e1]! := ⟨_, rfl⟩
        have H2 := Lib.hid (HX.out.swap hiN he1n).drew
        have k1 := HX.out.cell hiN
        have k2 := HX.out.cell he1n
        have f1 := HX.out.froz hiN
        have f2 := HX.out.froz he1n
        obtain ⟨u, k3⟩ := HX.out.swap2 hiN he1n
        rw [← hxi, ← hxj] at H2
        rw [← hxi] at k1
        rw [← hxj] at k2 k3
        clear hxi hxj
        have hs2 : IntKind.i64.wrap ((a : Int) + (uu : Int)) = (e1 : Int) := by rw [IntKind.wrap_i64]; omega
        clear he1
        go_wp2_with (fail)
        go_region
        go_wp2
        go_roundw
        case rel => exact ⟨k + 1, i + 1, by omega, by have := HI.out; omega, by go_num, by rw [HST1.out]; show Sd Ok B w0 Ts g n c (regA bx (Sort.xorNext (ST k).1).toNat :: Rs) _ _; rw [H1e.out]; exact H2.out⟩
        case measure => have := HI.out; have := HI2.out; simp [intOf]; omega
      · obtain ⟨e1, he1⟩ : ∃ e, e = a + O := ⟨_, rfl⟩
        have he1n : e1 < n := by omega
        have hgeI : ¬ (l : Int) ≤ (O : Int) := by omega
        have HST1 : Hid (ST (k + 1) = (Sort.xorNext (ST k).1, Sort.swp dk i e1)) := by show _ = _; rw [HSK.out, if_neg hge, ← he1]
        have H1e : Hid ((Sort.xorNext (ST k).1).toNat = Y) := EN.out.symm
        clear HSK
        go_wp2_with (fail)
        refine HNX.out.mono ?_
        clear HNX
        rintro e w2 ⟨rfl, rfl⟩
        obtain ⟨w2, hw2⟩ : ∃ w2, w2 = (wr.setCell ⟨bx, 0, none⟩ (.int .u64 (Y : Int))).drewN 3 := ⟨_, rfl⟩
        rw [← hw2] at HX ⊢
        clear hw2
        obtain ⟨xi, hxi⟩ : ∃ x, x = dk[i]! := ⟨_, rfl⟩
        obtain ⟨xj, hxj⟩ : ∃ x, x = dk[e1]! := ⟨_, rfl⟩
        have H2 := Lib.hid (HX.out.swap hiN he1n).drew
        have k1 := HX.out.cell hiN
        have k2 := HX.out.cell he1n
        have f1 := HX.out.froz hiN
        have f2 := HX.out.froz he1n
        obtain ⟨u, k3⟩ := HX.out.swap2 hiN he1n
        rw [← hxi, ← hxj] at H2
        rw [← hxi] at k1
        rw [← hxj] at k2 k3
        clear hxi hxj
        have hs2 : IntKind.i64.wrap ((a : Int) + (O : Int)) = (e1 : Int) := by rw [IntKind.wrap_i64]; omega
        clear he1
        go_wp2_with (fail)
        go_region
        go_wp2
        go_roundw
        case rel => exact ⟨k + 1, i + 1, by omega, by have := HI.out; omega, by go_num, by rw [HST1.out]; show Sd Ok B w0 Ts g n c (regA bx (Sort.xorNext (ST k).1).toNat :: Rs) _ _; rw [H1e.out]; exact H2.out⟩
        case measure => have := HI.out; have := HI2.out; simp [intOf]; omega
    · obtain rfl : k = 3 := by omega
      have hle : ¬ (i : Int) ≤ (i2 : Int) := by have := HI2.out; omega
      clear hi
      go_wp2
      go_end0
      rw [HEQ.out]
      exact ⟨rfl, HK.out.regDrop⟩
end
end Srt
end Go.Proofs.Ytlgfddpgmpabcaa

end
