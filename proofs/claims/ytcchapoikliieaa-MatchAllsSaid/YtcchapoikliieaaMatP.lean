/- The landed Longest. -/
import Derived.Test.YtcchapoikliieaaMatO
import Derived.Test.YtcchapoikliieaaArrEq
namespace Go.Proofs.Ytcchapoikliieaa
open Go.RowKit Go.Own
namespace Mat
open Go.MatM Byt

theorem eql_head {p0 p1 p2 q0 q1 q2 : UInt8} (v : Bool) (hv : decide ([p0, p1, p2] = [q0, q1, q2]) = v) :
    ∀ (o : Oper) (x y : Tmp), o.op = .binOp .eql 39 (.tmp x) (.tmp y) 39 → ∀ (ρ : Operand → Value) (w : World), ρ (.tmp x) = hdV p0 p1 p2 → ρ (.tmp y) = hdV q0 q1 q2 →
      (execOp ρ o).run Try.prog w = .ok (.value (.bool v)) w := by
  intro o x y ho ρ w h0 h1
  have h := run_equalIn_ints (P := Try.prog) 9998 39 5 .u8 [(p0.toNat : Int), p1.toNat, p2.toNat] [(q0.toNat : Int), q1.toNat, q2.toNat] rfl Try.underlying39 Try.underlying5 (fun w => by kernel_rfl) (fun w => by kernel_rfl) w
  have e : decide ([(p0.toNat : Int), p1.toNat, p2.toNat] = [(q0.toNat : Int), q1.toNat, q2.toNat]) = v := by
    rw [← hv]
    apply decide_eq_decide.2
    simp [← UInt8.toNat_inj]
    omega
  rw [e] at h
  have h' : (Op.equalIn 10000 39 (.agg #[.int .u8 (p0.toNat : Int), .int .u8 p1.toNat, .int .u8 p2.toNat]) (.agg #[.int .u8 (q0.toNat : Int), .int .u8 q1.toNat, .int .u8 q2.toNat])).run Try.prog w = .ok v w := h
  simp only [hdV, byteV] at h0 h1
  simp [execOp, ho, h0, h1, go_sem, h']

theorem longI_in (l : Bs) (t : Nat) : longI l (t : Int) = longest l t := by
  unfold longI
  by_cases h : t < l.length
  · rw [if_pos (by omega)]; rfl
  · rw [if_neg (by omega), longest_short l t (by omega)]
theorem longI_out (l : Bs) (t : Int) (h : ¬ (0 ≤ t ∧ t + 3 ≤ (l.length : Int))) : longI l t = (0, 0) := by
  by_cases h0 : 0 ≤ t
  · obtain ⟨t, rfl⟩ := Int.eq_ofNat_of_zero_le h0
    have e : longI l (t : Int) = longest l t := longI_in l t
    show longI l (t : Int) = (0, 0)
    rw [e]
    exact longest_short l t (by omega)
  · unfold longI; rw [if_neg (by omega)]

theorem choose_in {w wr : World} (hw : Below w.heap.size w wr) {ao : Option Addr} {len cap : Nat} {l : Bs} (HG : Given w ao len cap l) (t : Nat) (v : Value) (hb : len ≤ 1000000) (ht : t + 3 ≤ len) (hs : Slc wr v (near l t)) :
    Calls Try.prog 21 #[.slice ao len cap, .int .i64 (t : Int), v] wr fun e w' => e = .returned (.agg #[.int .i64 ((longest l t).1 : Int), .int .i64 ((longest l t).2 : Int)]) ∧ Below wr.heap.size wr w' := by
  have h := choose_any ao len cap t l v (near l t) wr hs (by have := near_len l t; omega) (fun k hk => near_lt l t k hk) (by omega) (Lib.hid (fun wx hwx k hk => by
    have hg := HG.later (hw.trans (hwx.mono hw.size))
    have h := common_any ao len cap l (k : Int) (t : Int) wx hg.view hg.size hb
    have e : comI l (k : Int) (t : Int) = com l k t := by unfold comI; rw [if_neg (by have := HG.size; omega)]; rfl
    rw [e] at h
    exact h))
  rw [pick_near l t (by have := HG.size; omega)] at h
  exact h

set_option maxHeartbeats 1600000 in
theorem longest_any (ao : Option Addr) (len cap : Nat) (l : Bs) (t : Int) (w : World) (hG : Given w ao len cap l) (hb : len ≤ 1000000) (ht : t ≤ 9223372036854775807) :
    Calls Try.prog 14 #[.slice ao len cap, .int .i64 t] w fun e w' => e = .returned (pairV (longI l t)) ∧ Below w.heap.size w w' := by
  have HG := Lib.hid hG
  clear hG
  obtain ⟨R, hR⟩ : ∃ r, r = longI l t := ⟨_, rfl⟩
  rw [← hR]
  by_cases hval : 0 ≤ t ∧ t + 3 ≤ (len : Int)
  · have P1 := Lib.hid (fun wx => hasHead_any ao len cap t true (decide_eq_true hval) wx (by omega) ht)
    obtain ⟨t, rfl⟩ := Int.eq_ofNat_of_zero_le hval.1
    have htl : t + 3 ≤ len := by omega
    obtain ⟨d, n, hdn⟩ : ∃ d n, (d, n) = R := ⟨_, _, rfl⟩
    subst hdn
    have HR : Hid (longest l t = (d, n)) := by show longest l t = (d, n); rw [hR]; exact (longI_in l t).symm
    clear hR hval
    obtain ⟨lo, hlo⟩ : ∃ lo, lo = t - 256 := ⟨_, rfl⟩
    have HMAX : Hid (max ((t : Int) - 256) 0 = (lo : Int)) := by show max ((t : Int) - 256) 0 = (lo : Int); omega
    have HLO := Lib.hid hlo
    have hlot : lo ≤ t := by omega
    clear hlo
    have CH : Hid (∀ wx j, Below w.heap.size w wx → j + 3 ≤ len → Calls Try.prog 20 #[.slice ao len cap, .int .i64 (j : Int)] wx fun e w' => e = .returned (hdV (by' l j) (by' l (j + 1)) (by' l (j + 2))) ∧ Below wx.heap.size wx w') :=
      fun wx j hwx hj => headAt_any ao len cap l j wx (HG.out.later hwx) hb hj
    go_enter Try.func14, Try.ntmps14
    have H0 : Hid (Own.St w.heap.size w w [ASlc (.slice none 0 0) (occ l (hd l t) lo lo)]) := by
      show Own.St _ _ _ _
      rw [occ_empty]; exact slc_nil (Own.St.start w)
    go_wp2_with (refine (P1.out _).mono ?_; clear P1; rintro e w' ⟨rfl, rfl⟩)
    rw [HMAX.out]
    go_loopw [6, 7] (fun v6 v7 wr => ∃ (k : Nat) (v : Value), lo ≤ k ∧ k ≤ t ∧ v7 = .int .i64 (k : Int) ∧ v = v6 ∧ Own.St w.heap.size w wr [ASlc v (occ l (hd l t) lo k)]) (fun _ v7 _ => t - (intOf v7).toNat)
    case atStart => exact ⟨lo, _, Nat.le_refl _, hlot, rfl, rfl, H0.out⟩
    case round =>
      obtain ⟨k, v, hk1, hk2, rfl, rfl, H⟩ := hrel
      have H := Lib.hid H
      clear H0
      by_cases hkt : k < t
      · have K1 := Lib.hid (CH.out wr k H.out.below (by omega))
        have HSUCC := Lib.hid (occ_succ l (hd l t) lo k hk1)
        go_wp2_with (fail)
        refine K1.out.mono ?_
        clear K1
        rintro e w1 ⟨rfl, h1⟩
        have H1 := Lib.hid (H.out.later h1)
        have K2 := Lib.hid (CH.out w1 t H1.out.below htl)
        clear h1 H
        go_wp2_with (fail)
        refine K2.out.mono ?_
        clear K2
        rintro e w2 ⟨rfl, h2⟩
        have H2 := Lib.hid (H1.out.later h2)
        clear h2 H1
        by_cases hh : hd l k = hd l t
        · have hv := decide_eq_true (p := [by' l k, by' l (k + 1), by' l (k + 2)] = [by' l t, by' l (t + 1), by' l (t + 2)]) hh
          have HV := Lib.hid hv
          clear hv
          have HSU : Hid (occ l (hd l t) lo (k + 1) = occ l (hd l t) lo k ++ [k]) := by show _ = _; rw [HSUCC.out, if_pos hh]
          clear hh HSUCC
          have HB1 : Hid ((occ l (hd l t) lo k).length + 1 ≤ 1000000000) := by show _ ≤ _; have := occ_len l (hd l t) lo k; omega
          have HC : Hid ((w2.alloc (.cells #[.int .i64 (k : Int)] 3)).cell? ⟨w2.heap.size, 0, none⟩ = some (nv k)) := by show _ = _; simp [nv]
          go_wp2_with (first | (refine wpList_val rfl (eql_head true HV.out _ _ _ rfl _ _ rfl rfl) ?_) | (at_builtin; refine wpList_slc_append rfl (.tmp 28) (.tmp 30) rfl (H2.out.alloc (.cells #[.int .i64 (k : Int)] 3)) 0 rfl rfl ⟨w2.heap.size, 0, none⟩ k rfl rfl HC.out HB1.out ?_; intro ay cy wf hf; simp only [List.set_cons_zero] at hf; have HF := Lib.hid hf; clear hf))
          go_roundw
          case rel => exact ⟨k + 1, _, by omega, by omega, by go_num, rfl, by rw [HSU.out]; exact HF.out⟩
          case measure => simp [intOf]; omega
        · have hv := decide_eq_false (p := [by' l k, by' l (k + 1), by' l (k + 2)] = [by' l t, by' l (t + 1), by' l (t + 2)]) hh
          have HV := Lib.hid hv
          clear hv
          have HSU : Hid (occ l (hd l t) lo (k + 1) = occ l (hd l t) lo k) := by show _ = _; rw [HSUCC.out, if_neg hh, List.append_nil]
          clear hh HSUCC
          go_wp2_with (refine wpList_val rfl (eql_head false HV.out _ _ _ rfl _ _ rfl rfl) ?_)
          go_roundw
          case rel => exact ⟨k + 1, _, by omega, by omega, by go_num, rfl, by rw [HSU.out]; exact H2.out⟩
          case measure => simp [intOf]; omega
      · have hk : k = t := by omega
        have hs : Slc wr v (near l t) := by
          have h := slc_of H.out 0 rfl
          unfold near
          rw [← HLO.out, ← hk]
          rw [hk] at h ⊢
          exact h
        have CS := Lib.hid (choose_in H.out.below HG.out t v hb htl hs)
        have HB := Lib.hid H.out.below
        rw [HR.out] at CS
        subst hk
        clear hs H HR
        go_wp2_with (fail)
        refine CS.out.mono ?_
        clear CS
        rintro e w1 ⟨rfl, h1⟩
        have HB1 := Lib.hid (HB.out.trans (h1.mono HB.out.size))
        clear h1
        go_wp2_with (fail)
        go_quiet (fail)
        go_wp2
        go_ret2
        exact ⟨rfl, (HB1.out.alloc HB1.out.size _).trans (below_drewN _ _ _)⟩
  · have P1 := Lib.hid (fun wx => hasHead_any ao len cap t false (decide_eq_false hval) wx (by omega) ht)
    have h0 : R = (0, 0) := by rw [hR]; exact longI_out l t (by rw [HG.out.size]; exact hval)
    subst h0
    clear hR
    go_enter Try.func14, Try.ntmps14
    go_wp2_with (refine (P1.out _).mono ?_; clear P1; rintro e w' ⟨rfl, rfl⟩)
    go_ret2
    exact ⟨rfl, Below.refl _ _⟩
end Mat
end Go.Proofs.Ytcchapoikliieaa
