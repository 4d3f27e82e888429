/- The document's answer for layer 6: Unpack. -/
import Derived.Test.YthmnaofmpijbiaaLzR
namespace Go.Proofs.Ythmnaofmpijbiaa
open Go.RowKit Go.Own
namespace Lz
open Go.MatM Go.LzM Byt

theorem reads_nil (w w' : World) (h : Below w.heap.size w w') : Reads [] w (.slice none 0 0) w' := ⟨none, 0, rfl, ⟨.inl rfl, rfl, ⟨Nat.le_refl _, Nat.zero_le _⟩, fun _ => rfl⟩, h⟩

/-- an answer of Unpack -/
def UnDone (x : Bs × Nat) (w : World) (e : Ending) (w' : World) : Prop := ∃ v, e = .returned (.tuple #[v, .int .i64 (x.2 : Int)]) ∧ Reads x.1 w v w'
theorem un_err (x : Bs × Nat) (k : Nat) (hx : x = ([], k)) {w w' : World} (h : Below w.heap.size w w') : UnDone x w (.returned (.tuple #[.slice none 0 0, .int .i64 (k : Int)])) w' := by
  subst hx
  exact ⟨_, rfl, reads_nil w w' h⟩

set_option maxRecDepth 6000 in
set_option maxHeartbeats 8000000 in
theorem refUnpack_any (ao : Option Addr) (n cap : Nat) (p : Bs) (most : Int) (w : World) (hg : Given w ao n cap p) (hb : n ≤ 1000000) (h0 : -9223372036854775808 ≤ most) (h1 : most ≤ 9223372036854775807) :
    Calls Try.prog 14 #[.slice ao n cap, .int .i64 most] w (UnDone (unpack p most.toNat) w) := by
  have HG := Lib.hid hg
  have HN := Lib.hid hg.size
  obtain ⟨M, hM⟩ : ∃ M, M = most.toNat := ⟨_, rfl⟩
  have hmax : max most 0 = (M : Int) := by omega
  have hMb : M ≤ 9223372036854775807 := by omega
  rw [← hM]
  clear hg hM
  obtain ⟨X, hX⟩ : ∃ X, X = unpack p M := ⟨_, rfl⟩
  rw [← hX]
  by_cases hn0 : n = 0
  · have HX : Hid (X = ([], 60)) := by
      show X = ([], 60)
      rw [hX, List.eq_nil_of_length_eq_zero (show p.length = 0 by rw [HN.out, hn0])]; rfl
    have hgo : ((n : Int) == 0) = true := by simp [hn0]
    clear hX hn0
    go_enter Try.func14, Try.ntmps14
    go_wp2
    go_ret2
    exact un_err X 60 HX.out (Below.refl _ _)
  have hgo : ((n : Int) == 0) = false := by simp [hn0]
  obtain ⟨n1, hn1⟩ : ∃ n1, n = n1 + 1 := ⟨n - 1, by omega⟩
  have hsub : (n : Int) - 1 = (n1 : Int) := by omega
  have hnpos : 0 < n := by omega
  obtain ⟨gb, go, hao, _, _, hc0⟩ := vat HG.out.view (k := 0) (by rw [HN.out]; omega)
  obtain ⟨c0, hcc⟩ : ∃ c, c = p.getD 0 0 := ⟨_, rfl⟩
  rw [← hcc, Nat.add_zero] at hc0
  have hpc : p = c0 :: p.drop 1 := by
    have h := List.drop_eq_getElem_cons (l := p) (i := 0) (by rw [HN.out]; omega)
    rw [List.drop_zero] at h
    rw [hcc]
    simpa [List.getD, show 0 < p.length by rw [HN.out]; omega] using h
  have HC0 := Lib.hid hc0
  by_cases hbig : (1 : Int) < (c0.toNat : Int)
  · have HX : Hid (X = ([], 60)) := by
      show X = ([], 60)
      rw [hX, hpc]
      unfold unpack
      simp only
      rw [if_pos (by omega)]
    clear hX hn0 hn1 hpc hcc HC0
    subst hao
    go_enter Try.func14, Try.ntmps14
    go_wp2
    go_ret2
    exact un_err X 60 HX.out (Below.refl _ _)
  by_cases hz : c0.toNat = 0
  · have hX0 : unpack p M = if M < (p.drop 1).length then ([], 4) else (p.drop 1, 0) := by
      rw [hpc]
      unfold unpack
      simp only
      rw [if_neg (by omega), if_pos hz]
      rfl
    have hl1 : (p.drop 1).length = n1 := by rw [List.length_drop, HN.out]; omega
    rw [hl1] at hX0
    have hgz : ((c0.toNat : Int) == 0) = true := by simp [hz]
    by_cases hlong : M < n1
    · have HX : Hid (X = ([], 4)) := by
        show X = ([], 4)
        rw [hX, hX0, if_pos hlong]
      clear hX hX0 hn0 hn1 hpc hcc HC0 hl1 hz
      subst hao
      go_enter Try.func14, Try.ntmps14
      go_wp2
      go_ret2
      exact un_err X 4 HX.out (Below.refl _ _)
    · have HX : Hid (X = (p.drop 1, 0)) := by
        show X = (p.drop 1, 0)
        rw [hX, hX0, if_neg hlong]
      obtain ⟨a2, c2, hF1, hF2⟩ := cutFrom (ao := ao) (l := p) (m := n) (cap := cap) 1 HN.out (by omega) HG.out.room.1 HG.out.room.2 HG.out.nil
      rw [show n - 1 = n1 by omega] at hF1 hF2
      have CF := Lib.hid hF1
      have CF2 := Lib.hid hF2
      clear hX hX0 hn0 hn1 hpc hcc HC0 hl1 hz hF1 hF2
      subst hao
      go_enter Try.func14, Try.ntmps14
      go_wp2_with (refine Byt.wpList_val rfl (CF.out _ (.tmp 33) (.const (.int .i64 1)) rfl _ _ rfl rfl) ?_)
      go_ret2
      rw [HX.out]
      exact ⟨_, rfl, a2, c2, by rw [CF2.out.len]; rfl, by rw [CF2.out.len]; exact ⟨CF2.out.view _ _ HG.out.view, CF2.out.len, CF2.out.cap, CF2.out.none⟩, Below.refl _ _⟩
  have hX1 : unpack p M = dec M (p.drop 1) [] := by
    have e : unpack (c0 :: p.drop 1) M = dec M (p.drop 1) [] := by
      unfold unpack
      simp only
      rw [if_neg (by omega), if_neg hz]
    rw [← hpc] at e
    exact e
  have HX := Lib.hid (hX.trans hX1)
  have hgz : ((c0.toNat : Int) == 0) = false := by simp [hz]
  clear hX hX1 hn0 hpc hcc hz
  go_enter Try.func14, Try.ntmps14
  have H0 := Lib.hid (ab_nil (Own.St.start w))
  subst hao
  go_wp2
  clear hgo hgz hc0
  go_loopw [6, 7] (fun v6 v7 wr => ∃ (i : Nat) (out : Bs) (ax : Option Addr) (k cx : Nat), v7 = .int .i64 (i : Int) ∧ v6 = .slice ax k cx ∧ 1 ≤ i ∧ i ≤ n ∧ k ≤ 130 * i ∧ k ≤ M ∧ Own.St w.heap.size w wr [AB ax k cx out] ∧ X = dec M (p.drop i) out) (fun _ v7 _ => n - (intOf v7).toNat)
  case atStart => exact ⟨1, [], none, 0, 0, rfl, rfl, Nat.le_refl _, by omega, by omega, Nat.zero_le _, H0.out, HX.out⟩
  case round =>
    obtain ⟨i, out, ax, k, cx, rfl, rfl, hi1, hin, hk130, hkM, H, E0⟩ := hrel
    have H := Lib.hid H
    have E := Lib.hid E0
    clear E0
    have HKL := Lib.hid (ab_len H.out 0 rfl).1
    by_cases hi : (i : Int) < (n : Int)
    · have GR := Lib.hid (HG.out.later H.out.below)
      obtain ⟨c, hc⟩ : ∃ c, c = p.getD i 0 := ⟨_, rfl⟩
      have hci := vcell GR.out.view (k := i) (by rw [HN.out]; omega)
      rw [← hc] at hci
      have hcb : c.toNat < 256 := c.toNat_lt
      have hil : i < p.length := by rw [HN.out]; omega
      obtain ⟨i1, hi1d⟩ : ∃ x, x = i + 1 := ⟨_, rfl⟩
      have e1 : (i : Int) + 1 = (i1 : Int) := by omega
      obtain ⟨sp, hsp⟩ : ∃ x, x = M - k := ⟨_, rfl⟩
      have e2 : (M : Int) - (k : Int) = (sp : Int) := by omega
      have hi1n : i1 ≤ n := by omega
      by_cases hlit : (c.toNat : Int) < 128
      · obtain ⟨q, hq⟩ : ∃ x, x = c.toNat + 1 := ⟨_, rfl⟩
        have e3 : (c.toNat : Int) + 1 = (q : Int) := by omega
        have hqb : q ≤ 128 := by omega
        obtain ⟨r, hr⟩ : ∃ x, x = n - i1 := ⟨_, rfl⟩
        have e4 : (n : Int) - (i1 : Int) = (r : Int) := by omega
        by_cases hrq : r < q
        · have HX2 : Hid (X = ([], 60)) := by
            show X = ([], 60)
            rw [E.out, dec_lit_long M p out i hil c hc.symm (by omega) (by rw [HN.out]; omega)]
          clear hc hi1d hsp hq hr
          go_wp2
          go_ret2
          exact un_err X 60 HX2.out H.out.below
        by_cases hsq : sp < q
        · have HX2 : Hid (X = ([], 4)) := by
            show X = ([], 4)
            rw [E.out, dec_lit_most M p out i hil c hc.symm (by omega) (by rw [HN.out]; omega) (by rw [HKL.out]; omega)]
          clear hc hi1d hsp hq hr
          go_wp2
          go_ret2
          exact un_err X 4 HX2.out H.out.below
        obtain ⟨j, hj⟩ : ∃ x, x = i1 + q := ⟨_, rfl⟩
        have e5 : (i1 : Int) + (q : Int) = (j : Int) := by omega
        have hjn : j ≤ n := by omega
        have HX2 : Hid (X = dec M (p.drop j) (out ++ (p.take j).drop i1)) := by
          show X = dec M (p.drop j) (out ++ (p.take j).drop i1)
          rw [E.out, dec_lit_ok M p out i hil c hc.symm (by omega) (by rw [HN.out]; omega) (by rw [HKL.out]; omega), hj, hi1d, hq]
        have HC := Lib.hid (vcells (vdrop (vtake GR.out.view j) i1))
        have hlen : ((p.take j).drop i1).length = j - i1 := by rw [List.length_drop, List.length_take, HN.out]; omega
        have HLEN := Lib.hid hlen
        have hcap : n ≤ cap := HG.out.room.1
        have hk2 : k + (j - i1) ≤ 130 * j := by omega
        have hk3 : k + (j - i1) ≤ M := by omega
        have hji : i < j := by omega
        have hjb : k + (j - i1) ≤ 1000000000 := by omega
        clear hc hi1d hsp hq hr hj hlen
        go_wp2_with (at_builtin; refine Byt.wpList_ab_append rfl (.tmp 62) (.tmp 68) rfl H.out 0 rfl rfl (some ⟨gb, go + i1, none⟩) (j - i1) (cap - i1) ((p.take j).drop i1) rfl (by intro h; cases h) HLEN.out HC.out hjb ?_; intro a4 c4 w4 h4; simp only [List.set_cons_zero] at h4; have H4 := Lib.hid h4; clear h4)
        go_roundw
        case rel => exact ⟨j, out ++ (p.take j).drop i1, a4, k + (j - i1), c4, rfl, rfl, by omega, hjn, hk2, hk3, H4.out, HX2.out⟩
        case measure => simp [intOf]; omega
      · obtain ⟨m, hm⟩ : ∃ x, x = c.toNat - 125 := ⟨_, rfl⟩
        have e3 : (c.toNat : Int) - 128 + 3 = (m : Int) := by omega
        have hmb : m ≤ 130 := by omega
        by_cases hend : i1 = n
        · have HX2 : Hid (X = ([], 60)) := by
            show X = ([], 60)
            rw [E.out, dec_ref_end M p out i (by rw [HN.out]; omega) c hc.symm (by omega)]
          clear hc hi1d hsp hm
          go_wp2
          go_ret2
          exact un_err X 60 HX2.out H.out.below
        obtain ⟨d, hd⟩ : ∃ x, x = p.getD i1 0 := ⟨_, rfl⟩
        have hdi := vcell GR.out.view (k := i1) (by rw [HN.out]; omega)
        rw [← hd] at hdi
        have hdb : d.toNat < 256 := d.toNat_lt
        obtain ⟨D, hD⟩ : ∃ x, x = d.toNat + 1 := ⟨_, rfl⟩
        have e4 : (d.toNat : Int) + 1 = (D : Int) := by omega
        have hDb : D ≤ 256 := by omega
        have hilt : i1 < n := by omega
        have HR : Hid (X = if k < D then ([], 60) else if M < k + m then ([], 4) else dec M (p.drop (i + 2)) (copyN out D m)) := by
          show X = if k < D then ([], 60) else if M < k + m then ([], 4) else dec M (p.drop (i + 2)) (copyN out D m)
          rw [E.out, dec_ref M p out i (by rw [HN.out]; omega) c d hc.symm (by rw [← hi1d]; exact hd.symm) (by omega), HKL.out, hD, hm]
        by_cases hkD : k < D
        · have HX2 : Hid (X = ([], 60)) := by
            show X = ([], 60)
            rw [HR.out, if_pos hkD]
          clear hc hi1d hsp hm hd hD
          go_wp2
          go_ret2
          exact un_err X 60 HX2.out H.out.below
        by_cases hsm : sp < m
        · have HX2 : Hid (X = ([], 4)) := by
            show X = ([], 4)
            rw [HR.out, if_neg hkD, if_pos (by omega)]
          clear hc hi1d hsp hm hd hD
          go_wp2
          go_ret2
          exact un_err X 4 HX2.out H.out.below
        have HX2 : Hid (X = dec M (p.drop (i1 + 1)) (copyN out D m)) := by
          show X = dec M (p.drop (i1 + 1)) (copyN out D m)
          rw [HR.out, if_neg hkD, if_neg (by omega), hi1d]
        have hk2 : k + m ≤ 130 * (i1 + 1) := by omega
        have hk3 : k + m ≤ M := by omega
        have hkD1 : 1 ≤ D := by omega
        have hi1i : i < i1 := by omega
        clear hc hi1d hsp hm hd hD
        have hkn0 : k + m ≤ 1000000000 := by omega
        go_wp2
        go_loopw [6, 12] (fun v6 v12 wr => ∃ (t : Nat) (ay : Option Addr) (cy : Nat), t ≤ m ∧ v12 = .int .i64 (t : Int) ∧ v6 = .slice ay (k + t) cy ∧ Own.St w.heap.size w wr [AB ay (k + t) cy (copyN out D t)]) (fun _ v12 _ => m - (intOf v12).toNat)
        case atStart => exact ⟨0, ax, cx, Nat.zero_le _, rfl, rfl, H.out⟩
        case round =>
          obtain ⟨t, ay, cy, htm, rfl, rfl, G⟩ := hrel
          have G := Lib.hid G
          clear H GR hci hdi HKL
          by_cases ht : (t : Int) < (m : Int)
          · obtain ⟨z, hz⟩ : ∃ z, z = k + t - D := ⟨_, rfl⟩
            have e6 : (k : Int) + (t : Int) - (D : Int) = (z : Int) := by omega
            obtain ⟨g, rfl, hcz, _, _⟩ := ab_byte G.out 0 rfl z (by omega)
            obtain ⟨x, hx⟩ : ∃ x, x = (copyN out D t).getD z 0 := ⟨_, rfl⟩
            rw [← hx] at hcz
            have HS : Hid (copyN out D (t + 1) = copyN out D t ++ [x]) := by
              show copyN out D (t + 1) = copyN out D t ++ [x]
              rw [copyN_succ, (ab_len G.out 0 rfl).1, hx, hz]
            have hxb : x.toNat < 256 := x.toNat_lt
            have hzk : z < k + t := by omega
            clear hz hx
            go_wp2_with (at_builtin; refine Byt.wpList_ab_append rfl (.tmp 110) (.tmp 118) rfl (G.out.alloc (.cells #[.int .u8 (x.toNat : Int)] 5)) 0 rfl rfl (some ⟨wr.heap.size, 0, none⟩) 1 1 [x] rfl (by intro h; cases h) rfl (one_cells8 wr x _) (by omega) ?_; intro a4 c4 w4 h4; simp only [List.set_cons_zero] at h4; have H4 := Lib.hid h4; clear h4)
            go_roundw
            case rel =>
              refine ⟨t + 1, a4, c4, by omega, by go_num, rfl, ?_⟩
              rw [HS.out]
              exact H4.out
            case measure => simp [intOf]; omega
          · have htm2 : t = m := by omega
            have G2 : Hid (Own.St w.heap.size w wr [AB ay (k + t) cy (copyN out D m)]) := by
              have h := G.out
              rw [htm2] at h ⊢
              exact h
            have HKT : Hid (k + t ≤ 130 * (i1 + 1) ∧ k + t ≤ M) := ⟨by omega, by omega⟩
            clear htm2 G
            go_wp2
            go_roundw
            case rel => exact ⟨i1 + 1, copyN out D m, ay, k + t, cy, by go_num, rfl, by omega, by omega, HKT.out.1, HKT.out.2, G2.out, HX2.out⟩
            case measure => simp [intOf]; omega
    · have HO : Hid (X = (out, 0)) := by
        show X = (out, 0)
        rw [E.out, List.drop_of_length_le (by rw [HN.out]; omega), dec_nil]
      go_wp2
      go_ret2
      rw [HO.out]
      exact ⟨_, rfl, ax, cx, by rw [HKL.out]; rfl, by rw [HKL.out]; exact given_own H.out 0 rfl, H.out.below⟩
end Lz
end Go.Proofs.Ythmnaofmpijbiaa
