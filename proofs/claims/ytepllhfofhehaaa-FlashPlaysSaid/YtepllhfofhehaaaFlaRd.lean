/- Layer 7: the document's flash: Program, Erase. -/
import Derived.Test.YtepllhfofhehaaaFlaRc
namespace Go.Proofs.Ytepllhfofhehaaa
open Go.RowKit Go.Own
namespace Fla
open Go.FlaM Byt

theorem there_in {s : FS} {seg page : Int} (h : there s seg page = true) : ∃ i k : Nat, seg = i ∧ page = k ∧ i < s.safe.length ∧ k < s.pp := by
  have hin : 0 ≤ seg ∧ seg < (s.safe.length : Int) ∧ 0 ≤ page ∧ page < (s.pp : Int) := by simpa [there] using h
  exact ⟨seg.toNat, page.toNat, by omega, by omega, by omega, by omega⟩

set_option maxHeartbeats 4000000 in
theorem progR_any {B : Nat} {w0 w : World} {Ps : List Asn} {p : Nat} {s : FS} {N : Nat} (H : Own.St B w0 w (ARef p s :: Ps)) (hok : Ok s N) (hN : N ≤ 100000) (seg page : Int) (b : Bs) :
    Calls Try.prog 44 #[ptr p, .int .i64 seg, .int .i64 page, strV b] w fun e w' => e = .returned (errV (progF s seg page b).2) ∧ Own.St B w0 w' (ARef p (progF s seg page b).1 :: Ps) := by
  obtain ⟨R, hR⟩ : ∃ R, R = progF s seg page b := ⟨_, rfl⟩
  rw [← hR]
  have T1 := Lib.hid (there_any H hok seg page _ rfl)
  have HSZ := strB_size b
  cases hth : there s seg page with
  | false =>
    rw [hth] at T1
    have HR : Hid (R = (s, 1)) := by show R = _; rw [hR]; unfold progF; rw [if_pos (.inl hth)]
    have HH := Lib.hid H
    clear hR H hth
    go_enter Try.func44, Try.ntmps44
    go_wp2_with (refine T1.out.mono ?_; clear T1; rintro e w' ⟨rfl, rfl⟩)
    go_ret
    rw [HR.out]
    exact ⟨rfl, HH.out⟩
  | true =>
    rw [hth] at T1
    by_cases hbl : b.length = 128
    · obtain ⟨i, k, rfl, rfl, hi, hk⟩ := there_in hth
      have N1 := Lib.hid (now_any H hok hN i k hi hk)
      obtain ⟨vS, vL, vW, H'⟩ := ref_open H
      have c3 := (H'.cellV 1 rfl 3 rfl).1
      have hne : ¬ (there s (i : Int) (k : Int) = false ∨ b.length ≠ 128) := by rw [hth, hbl]; simp
      rw [hbl] at HSZ
      cases ho : s.off with
      | true =>
        rw [ho] at c3
        have HR : Hid (R = (s, 6)) := by show R = _; rw [hR]; unfold progF; rw [if_neg hne, if_pos ho]
        have HH := Lib.hid H
        clear hR H H' hth ho hne N1
        go_enter Try.func44, Try.ntmps44
        go_wp2_with (refine T1.out.mono ?_; clear T1; rintro e w' ⟨rfl, rfl⟩)
        go_ret
        rw [HR.out]
        exact ⟨rfl, HH.out⟩
      | false =>
        rw [ho] at c3
        obtain ⟨x, hx⟩ : ∃ x, x = now s i k := ⟨_, rfl⟩
        rw [← hx] at N1
        by_cases hxb : x = FlaM.blank
        · have hd := decide_eq_true hxb
          have HD : Hid (decide (x = FlaM.blank) = !false) := decide_eq_true hxb
          have hnb : ¬ now s (i : Int).toNat (k : Int).toNat ≠ FlaM.blank := by show ¬ now s i k ≠ _; rw [← hx, hxb]; simp
          have HR : Hid (R = if (trip s).off then (trip s, 6) else (okd { trip s with L := (trip s).L ++ [⟨i, (k : Int), b⟩] }, 0)) := by
            show R = _; rw [hR]; unfold progF; rw [if_neg hne, if_neg (by rw [ho]; simp), if_neg hnb]; rfl
          have HOK := Lib.hid hok
          have HH := Lib.hid H
          clear hR H H' hth ho hne hnb hx hxb
          go_enter Try.func44, Try.ntmps44
          go_wp2_with (first | (refine T1.out.mono ?_; clear T1; rintro e w' ⟨rfl, rfl⟩) | (refine N1.out.mono ?_; clear N1; rintro e w1 ⟨rfl, h1⟩; have H1 := Lib.hid (HH.out.later h1); clear h1 HH))
          refine (erased_any w1).mono ?_
          rintro e w2 ⟨rfl, h2⟩
          have H2 := Lib.hid (H1.out.later h2)
          clear h2 H1
          go_wp2_with (refine wpList_val rfl (neq_str rfl x FlaM.blank false HD.out _ _ rfl rfl) ?_)
          refine (off_any H2.out).mono ?_
          rintro e w3 ⟨rfl, h3⟩
          have H3 := Lib.hid h3
          clear h3 H2
          cases hto : (trip s).off with
          | true =>
            have HR2 : Hid (R = (trip s, 6)) := by show R = _; rw [HR.out, if_pos hto]
            clear hto
            go_wp2
            go_ret
            rw [HR2.out]
            exact ⟨rfl, H3.out⟩
          | false =>
            have HR2 : Hid (R = (okd { trip s with L := (trip s).L ++ [⟨i, (k : Int), b⟩] }, 0)) := by show R = _; rw [HR.out, if_neg (by rw [hto]; simp)]
            have HOK2 := Lib.hid (ok_trip HOK.out)
            clear hto HR HOK
            obtain ⟨vS', vL', vW', H3'⟩ := ref_open H3.out
            obtain ⟨a0, b0, rfl⟩ := rowL_form H3' 2 rfl
            have c1 := (H3'.cellV 1 rfl 1 rfl).1
            have HLL : Hid ((trip s).L.length + 1 ≤ 100000000) := by show _ ≤ _; have := HOK2.out.log; have := HOK2.out.n; omega
            have H4 := Lib.hid (H3'.alloc (.cells #[.int .i64 (i : Int), .int .i64 (k : Int), strV b] 93))
            have TC := Lib.hid (three_cells w3 ⟨i, (k : Int), b⟩ 93)
            clear H3 H3'
            go_wp2_with (at_builtin; refine wpList_rowL_append rfl (.tmp 35) (.tmp 40) rfl H4.out 2 rfl rfl ⟨w3.heap.size, 0, none⟩ ⟨i, (k : Int), b⟩ rfl TC.out HLL.out ?_; intro a4 c4 w4 h4; simp only [List.set_cons_zero, List.set_cons_succ] at h4; have d1 := (h4.cellV 1 rfl 1 rfl).1; have f1 := (h4.cellV 1 rfl 1 rfl).2; have H5 := Lib.hid h4; clear h4)
            have H6 : Hid (Own.St B w0 (w4.setCell ⟨p, 1, none⟩ (.slice a4 ((trip s).L.length + 1) c4)) (ARef p { trip s with L := (trip s).L ++ [⟨i, (k : Int), b⟩] } :: Ps)) :=
              ref_close (s := { trip s with L := (trip s).L ++ [⟨i, (k : Int), b⟩] }) (H5.out.storeV 1 rfl 1 (.slice a4 ((trip s).L.length + 1) c4))
            clear H5 H4
            refine (done_any H6.out (by have := HOK2.out.n; show (trip s).n ≤ _; omega) HOK2.out.left).mono ?_
            rintro e w5 ⟨rfl, h5⟩
            have H7 := Lib.hid h5
            go_wp2
            go_ret
            rw [HR2.out]
            exact ⟨rfl, H7.out⟩
        · have HD : Hid (decide (x = FlaM.blank) = !true) := decide_eq_false hxb
          have hnb : now s (i : Int).toNat (k : Int).toNat ≠ FlaM.blank := by show now s i k ≠ _; rw [← hx]; exact hxb
          have HR : Hid (R = (s, 70)) := by
            show R = _; rw [hR]; unfold progF; rw [if_neg hne, if_neg (by rw [ho]; simp), if_pos hnb]
          have HH := Lib.hid H
          clear hR H H' hth ho hne hnb hx hxb
          go_enter Try.func44, Try.ntmps44
          go_wp2_with (first | (refine T1.out.mono ?_; clear T1; rintro e w' ⟨rfl, rfl⟩) | (refine N1.out.mono ?_; clear N1; rintro e w1 ⟨rfl, h1⟩; have H1 := Lib.hid (HH.out.later h1); clear h1 HH))
          refine (erased_any w1).mono ?_
          rintro e w2 ⟨rfl, h2⟩
          have H2 := Lib.hid (H1.out.later h2)
          clear h2 H1
          go_wp2_with (refine wpList_val rfl (neq_str rfl x FlaM.blank true HD.out _ _ rfl rfl) ?_)
          go_ret
          rw [HR.out]
          exact ⟨rfl, H2.out⟩
    · have HR : Hid (R = (s, 1)) := by show R = _; rw [hR]; unfold progF; rw [if_pos (.inr hbl)]
      have HH := Lib.hid H
      have hbl' : ¬ (b.length : Int) = 128 := by omega
      clear hR H hth
      go_enter Try.func44, Try.ntmps44
      go_wp2_with (refine T1.out.mono ?_; clear T1; rintro e w' ⟨rfl, rfl⟩)
      go_ret
      rw [HR.out]
      exact ⟨rfl, HH.out⟩

theorem rowW_at {B : Nat} {w0 w : World} {Ps : List Asn} {ao : Option Addr} {n c : Nat} {l : List Nat} (H : Own.St B w0 w Ps) (i : Nat) (hi : Ps[i]? = some (RowW (.slice ao n c) l)) (j : Nat) (hj : j < l.length) :
    ∃ g, ao = some ⟨g, 0, none⟩ ∧ w.cell? ⟨g, j, none⟩ = some (.int .i64 ((l.getD j 0 : Nat) : Int)) ∧ w.frozen? ⟨g, j, none⟩ = false ∧ ∀ q : Nat, Own.St B w0 (w.setCell ⟨g, j, none⟩ (.int .i64 (q : Int))) (Ps.set i (RowW (.slice ao n c) (l.set j q))) := by
  obtain ⟨ao', c', e⟩ := H.rowForm i hi
  cases e
  obtain ⟨g, rfl, ⟨u, hu, hc⟩, hf, put⟩ := H.rowAt i hi j (by omega)
  have hu' : (l.map nuV)[j]? = some (nuV (l.getD j 0)) := by rw [List.getElem?_map, List.getElem?_eq_getElem hj, List.getD_eq_getElem?_getD, List.getElem?_eq_getElem hj]; rfl
  rw [hu'] at hu
  cases hu
  refine ⟨g, rfl, hc, hf, fun q => ?_⟩
  have h := put (nuV q)
  rw [← List.map_set] at h
  have e : RowW (.slice (some ⟨g, 0, none⟩) l.length c) (l.set j q) = ARow 3 1 (.slice (some ⟨g, 0, none⟩) l.length c) l.length ((l.set j q).map nuV) := by show ARow _ _ _ _ _ = _; rw [List.length_set]
  rw [e]
  exact h
set_option maxHeartbeats 4000000 in
theorem eraseR_any {B : Nat} {w0 w : World} {Ps : List Asn} {p : Nat} {s : FS} {N : Nat} (H : Own.St B w0 w (ARef p s :: Ps)) (hok : Ok s N) (hN : N ≤ 100000) (seg : Int) :
    Calls Try.prog 45 #[ptr p, .int .i64 seg] w fun e w' => e = .returned (errV (erase s seg).2) ∧ Own.St B w0 w' (ARef p (erase s seg).1 :: Ps) := by
  obtain ⟨R, hR⟩ : ∃ R, R = erase s seg := ⟨_, rfl⟩
  rw [← hR]
  have T1 := Lib.hid (there_any H hok seg 0 _ rfl)
  cases hth : there s seg 0 with
  | false =>
    rw [hth] at T1
    have HR : Hid (R = (s, 1)) := by show R = _; rw [hR]; unfold erase; rw [if_pos hth]
    have HH := Lib.hid H
    clear hR H hth
    go_enter Try.func45, Try.ntmps45
    go_wp2_with (refine T1.out.mono ?_; clear T1; rintro e w' ⟨rfl, rfl⟩)
    go_ret
    rw [HR.out]
    exact ⟨rfl, HH.out⟩
  | true =>
    rw [hth] at T1
    obtain ⟨i, k, rfl, -, hi, -⟩ := there_in hth
    have HR : Hid (R = if (trip s).off then (trip s, 6) else (okd { trip s with L := (trip s).L ++ [⟨i, -1, []⟩], wear := bump (trip s).wear i }, 0)) := by
      show R = _; rw [hR]; unfold erase; rw [if_neg (by rw [hth]; simp)]; rfl
    have HOK2 := Lib.hid (ok_trip hok)
    have hsl : (trip s).safe = s.safe := by unfold trip; split <;> rfl
    have HI : Hid (i < (trip s).wear.length) := by show i < _; rw [HOK2.out.wear, hsl]; exact hi
    have O1 := Lib.hid (off_any H)
    clear hR H hth hsl hok
    go_enter Try.func45, Try.ntmps45
    go_wp2_with (refine T1.out.mono ?_; clear T1; rintro e w' ⟨rfl, rfl⟩)
    refine O1.out.mono ?_
    clear O1
    rintro e w3 ⟨rfl, h3⟩
    have H3 := Lib.hid h3
    clear h3
    cases hto : (trip s).off with
    | true =>
      have HR2 : Hid (R = (trip s, 6)) := by show R = _; rw [HR.out, if_pos hto]
      clear hto
      go_wp2
      go_ret
      rw [HR2.out]
      exact ⟨rfl, H3.out⟩
    | false =>
      have HR2 : Hid (R = (okd { trip s with L := (trip s).L ++ [⟨i, -1, []⟩], wear := bump (trip s).wear i }, 0)) := by show R = _; rw [HR.out, if_neg (by rw [hto]; simp)]
      clear hto HR
      obtain ⟨vS', vL', vW', H3'⟩ := ref_open H3.out
      obtain ⟨a0, b0, rfl⟩ := rowL_form H3' 2 rfl
      obtain ⟨aw, bw, rfl⟩ := H3'.rowForm 3 rfl
      have c1 := (H3'.cellV 1 rfl 1 rfl).1
      have HLL : Hid ((trip s).L.length + 1 ≤ 100000000) := by show _ ≤ _; have := HOK2.out.log; have := HOK2.out.n; omega
      have H4 := Lib.hid (H3'.alloc (.cells #[.int .i64 (i : Int), .int .i64 (-1), strV []] 93))
      have TC := Lib.hid (three_cells w3 ⟨i, -1, []⟩ 93)
      clear H3 H3'
      go_wp2_with (at_builtin; refine wpList_rowL_append rfl (.tmp 15) (.tmp 18) rfl H4.out 2 rfl rfl ⟨w3.heap.size, 0, none⟩ ⟨i, -1, []⟩ rfl TC.out HLL.out ?_; intro a4 c4 w4 h4; simp only [List.set_cons_zero, List.set_cons_succ] at h4; have d1 := (h4.cellV 1 rfl 1 rfl).1; have f1 := (h4.cellV 1 rfl 1 rfl).2; have d2 := (h4.cellV 1 rfl 2 rfl).1; have h5 := h4.storeV 1 rfl 1 (.slice a4 ((trip s).L.length + 1) c4); simp only [List.set_cons_zero, List.set_cons_succ] at h5; obtain ⟨gw, rfl, dw, fw, putw⟩ := rowW_at h5 3 rfl i HI.out; have e2 := (h5.cellV 1 rfl 2 rfl).1; obtain ⟨q, hq⟩ : ∃ q, q = (trip s).wear.getD i 0 := ⟨_, rfl⟩; rw [← hq] at dw; have hql : q ≤ 100000 := (by have := HOK2.out.worn i; have := HOK2.out.n; omega); have H6 := Lib.hid (putw (q + 1)); rw [hq] at H6; have HQ := Lib.hid hq; clear h4 h5 putw hq)
      have H7 : Hid (Own.St B w0 ((w4.setCell ⟨p, 1, none⟩ (.slice a4 ((trip s).L.length + 1) c4)).setCell ⟨gw, i, none⟩ (.int .i64 ((q + 1 : Nat) : Int))) (ARef p { trip s with L := (trip s).L ++ [⟨i, -1, []⟩], wear := bump (trip s).wear i } :: Ps)) := by
        show Own.St _ _ _ _
        have h := H6.out
        rw [HQ.out]
        refine ref_close (s := { trip s with L := (trip s).L ++ [⟨i, -1, []⟩], wear := bump (trip s).wear i }) (vS := vS') (vL := .slice a4 ((trip s).L.length + 1) c4) (vW := .slice (some ⟨gw, 0, none⟩) (trip s).wear.length bw) ?_
        exact h
      clear H6 H4 dw fw d1 d2 f1 e2 c1
      refine (done_any H7.out (by have := HOK2.out.n; show (trip s).n ≤ _; omega) HOK2.out.left).mono ?_
      rintro e w5 ⟨rfl, h5⟩
      have H8 := Lib.hid h5
      go_wp2
      go_ret
      rw [HR2.out]
      exact ⟨rfl, H8.out⟩
end Fla
end Go.Proofs.Ytepllhfofhehaaa
