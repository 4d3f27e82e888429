/- The document's own answers for layer 5: the longest match. -/
import Derived.Test.YthmnaofmpijbiaaMatR
namespace Go.Proofs.Ythmnaofmpijbiaa
open Go.RowKit Go.Own
namespace Mat
open Go.MatM Byt

/-- P5.2, for any number -/
def longI (l : Bs) (t : Int) : Nat × Nat := if 0 ≤ t ∧ t < (l.length : Int) then longest l t.toNat else (0, 0)
abbrev pairV (x : Nat × Nat) : Value := .tuple #[.int .i64 (x.1 : Int), .int .i64 (x.2 : Int)]

set_option maxHeartbeats 1600000 in
theorem refLongest_any (ao : Option Addr) (len cap : Nat) (l : Bs) (t : Int) (w : World) (hV : View w (fun k => k < w.heap.size) ao l) (hn : l.length = len) (hb : len ≤ 100000000) :
    Calls Try.prog 22 #[.slice ao len cap, .int .i64 t] w fun e w' => e = .returned (pairV (longI l t)) ∧ Below w.heap.size w w' := by
  have HN := Lib.hid hn
  have HV := Lib.hid hV
  obtain ⟨R, hR⟩ : ∃ r, r = longI l t := ⟨_, rfl⟩
  rw [← hR]
  clear hV
  by_cases hval : 0 ≤ t ∧ t < (len : Int)
  · obtain ⟨p, rfl⟩ := Int.eq_ofNat_of_zero_le hval.1
    have hpl : p < len := by omega
    have hRl : R = longest l p := by rw [hR]; unfold longI; rw [if_pos (by rw [hn]; exact hval)]; rfl
    obtain ⟨D, hD⟩ : ∃ D, D = min 256 p := ⟨_, rfl⟩
    have hDm : dmax l p = D := by unfold dmax; rw [if_pos (by omega), hD]
    have HR : Hid (R = if (best l p D).2 < 3 then (0, 0) else best l p D) := by show R = _; rw [hRl]; unfold longest; rw [hDm]
    clear hR hRl hDm hval hn
    go_enter Try.func22, Try.ntmps22
    go_wp2
    go_loopw [6, 7, 8] (fun v6 v7 v8 wr => ∃ d f n d1 : Nat, d ≤ D ∧ d1 = d + 1 ∧ v8 = .int .i64 (d1 : Int) ∧ best l p d = (f, n) ∧ v6 = .int .i64 (f : Int) ∧ v7 = .int .i64 (n : Int) ∧ Below w.heap.size w wr) (fun _ _ v8 _ => 300 - (intOf v8).toNat)
    case atStart => exact ⟨0, 0, 0, 1, Nat.zero_le _, rfl, rfl, rfl, rfl, rfl, Below.refl _ _⟩
    case round =>
      obtain ⟨d, f, n, d1, hdD, hd1, rfl, hbest, rfl, rfl, hbel⟩ := hrel
      have HBEST := Lib.hid hbest
      have HB := Lib.hid hbel
      have HD1 := Lib.hid hd1
      have hnb : n ≤ 130 := by
        have h0 : ∀ D, (best l p D).2 ≤ 130 := by
          intro D
          induction D with
          | zero => exact Nat.zero_le _
          | succ D ih =>
            unfold best
            split
            · exact com_le _ _ _
            · exact ih
        have := h0 d
        rw [hbest] at this
        exact this
      clear hbest hbel
      by_cases hlt : d < D
      · have h256 : (d1 : Int) ≤ 256 := by omega
        have hdp : d1 ≤ p := by omega
        obtain ⟨td, htd⟩ : ∃ td, td = p - d1 := ⟨_, rfl⟩
        have hsub : (p : Int) - (d1 : Int) = (td : Int) := by omega
        obtain ⟨m, hm⟩ : ∃ m, m = com l td p := ⟨_, rfl⟩
        have hmb : m ≤ 130 := by rw [hm]; exact com_le _ _ _
        have CC : Hid (∀ wx, Below w.heap.size w wx → Calls Try.prog 31 #[.slice ao len cap, .int .i64 (td : Int), .int .i64 (p : Int)] wx fun e w' => e = .returned (.int .i64 (m : Int)) ∧ Below wx.heap.size wx w') := by
          intro wx hwx
          have h := refCommon_any ao len cap l td p wx ((View.below HV.out hwx).mono (fun k hk => by have := hwx.size; omega)) HN.out hb
          have e : comI l td p = m := by rw [hm]; unfold comI; rw [if_neg (by have := HN.out; omega)]; rfl
          rw [e] at h
          exact h
        have HNX : Hid (best l p d1 = if n < m then (d1, m) else (f, n)) := by
          show best l p d1 = _
          rw [HD1.out]
          unfold best
          rw [HBEST.out, hm, htd, HD1.out]
        clear hm htd hd1
        go_wp2_with (fail)
        refine (CC.out wr HB.out).mono ?_
        rintro e wd ⟨rfl, hwd⟩
        have HB2 := Lib.hid (HB.out.trans (hwd.mono HB.out.size))
        clear hwd
        by_cases hnm : n < m
        · have HG : Hid (best l p d1 = (d1, m)) := by show best l p d1 = (d1, m); rw [HNX.out, if_pos hnm]
          go_wp2
          go_roundw
          case rel => exact ⟨d1, d1, m, d1 + 1, by have := HD1.out; omega, rfl, by go_num, HG.out, rfl, rfl, HB2.out⟩
          case measure => simp [intOf]; omega
        · have HG : Hid (best l p d1 = (f, n)) := by show best l p d1 = (f, n); rw [HNX.out, if_neg hnm]
          go_wp2
          go_roundw
          case rel => exact ⟨d1, f, n, d1 + 1, by have := HD1.out; omega, rfl, by go_num, HG.out, rfl, rfl, HB2.out⟩
          case measure => simp [intOf]; omega
      · have HE : Hid (best l p D = (f, n)) := by show best l p D = (f, n); rw [← HBEST.out, show D = d by omega]
        have HRR : Hid (R = if n < 3 then (0, 0) else (f, n)) := by show R = _; rw [HR.out, HE.out]
        by_cases h256 : (d1 : Int) ≤ 256
        · have hdp : ¬ d1 ≤ p := by omega
          by_cases h3 : (n : Int) < 3
          · have HX : Hid (R = (0, 0)) := by show R = (0, 0); rw [HRR.out, if_pos (by omega)]
            clear hd1
            go_wp2
            go_ret2
            exact ⟨by rw [HX.out]; rfl, HB.out⟩
          · have HX : Hid (R = (f, n)) := by show R = (f, n); rw [HRR.out, if_neg (by omega)]
            clear hd1
            go_wp2
            go_ret2
            exact ⟨by rw [HX.out]; rfl, HB.out⟩
        · by_cases h3 : (n : Int) < 3
          · have HX : Hid (R = (0, 0)) := by show R = (0, 0); rw [HRR.out, if_pos (by omega)]
            clear hd1
            go_wp2
            go_ret2
            exact ⟨by rw [HX.out]; rfl, HB.out⟩
          · have HX : Hid (R = (f, n)) := by show R = (f, n); rw [HRR.out, if_neg (by omega)]
            clear hd1
            go_wp2
            go_ret2
            exact ⟨by rw [HX.out]; rfl, HB.out⟩
  · have h0 : R = (0, 0) := by rw [hR]; unfold longI; rw [if_neg (by rw [hn]; exact hval)]
    subst h0
    clear hR hn
    go_enter Try.func22, Try.ntmps22
    go_wp2
    go_loopw [6, 7, 8] (fun v6 v7 v8 wr => v6 = .int .i64 0 ∧ v7 = .int .i64 0 ∧ v8 = .int .i64 1 ∧ wr = w) (fun _ _ _ _ => 0)
    case atStart => exact ⟨rfl, rfl, rfl, rfl⟩
    case round =>
      obtain ⟨rfl, rfl, rfl, rfl⟩ := hrel
      by_cases h1 : (1 : Int) ≤ t
      · have h2 : ¬ t < (len : Int) := by omega
        go_wp2
        go_ret2
        exact ⟨rfl, Below.refl _ _⟩
      · go_wp2
        go_ret2
        exact ⟨rfl, Below.refl _ _⟩

end Mat
end Go.Proofs.Ythmnaofmpijbiaa
