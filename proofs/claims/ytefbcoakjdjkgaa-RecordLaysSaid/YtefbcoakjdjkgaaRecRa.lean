/- Layer 10, the document's answer: Right. -/
import Derived.Test.YtefbcoakjdjkgaaRecR
namespace Go.Proofs.Ytefbcoakjdjkgaa
open Go.RowKit Go.Own
namespace Rec
open Go.RecM Byt
set_option maxHeartbeats 3200000 in
theorem right_any (n : Nte) (hs : n.sum.length = 32) (ao : Option Addr) (len cap : Nat) (hl : n.data.length = len) (hb : len ≤ 1000000) (w : World) :
    Calls Try.prog 13 #[.agg (ntC n (.slice ao len cap)).toArray] w fun e w' => e = .returned (.bool (right n)) ∧ Below w.heap.size w w' := by
  obtain ⟨cs, hcs⟩ : ∃ cs, cs = ntC n (.slice ao len cap) := ⟨_, rfl⟩
  rw [← hcs]
  have hbox := (Own.St.start w).boxV 30 cs
  have cc : ∀ j v, cs[j]? = some v → (w.alloc (.cells cs.toArray 30)).cell? ⟨w.heap.size, j, none⟩ = some v := fun j v h => (hbox.cellV 0 rfl j h).1
  have c0 := cc 0 (.int .u8 (n.kind.toNat : Int)) (by rw [hcs]; rfl)
  have c1 := cc 1 (.int .u32 (n.addr : Int)) (by rw [hcs]; rfl)
  have c2 := cc 2 (.int .u64 (n.seq : Int)) (by rw [hcs]; rfl)
  have c36 := cc 36 (.slice ao len cap) (by rw [hcs]; exact ntC_data n _ hs)
  have RK : Hid ((w.alloc (.cells cs.toArray 30)).rangeAt w.heap.size 3 (keyC n.sum n.kn)) := fun j v hv => cc (3 + j) v (by rw [hcs]; exact ntC_key n _ j v hv)
  have HB := Lib.hid hbox.below
  have KL := Lib.hid (keyC_len n.sum n.kn hs)
  have HS := Lib.hid hs
  obtain ⟨i1, i2, i3, i4⟩ := kind_is n.kind
  obtain ⟨r, hr⟩ : ∃ r, r = right n := ⟨_, rfl⟩
  rw [← hr]
  unfold right at hr
  rw [hl] at hr
  by_cases h300 : 300 < (len : Int)
  · rw [decide_eq_false (by omega), Bool.false_and] at hr
    subst hr
    clear cc hbox hcs i1 i2 i3 i4
    go_enter Try.func13, Try.ntmps13
    go_wp2
    go_ret
    exact ⟨rfl, HB.out⟩
  rw [decide_eq_true (by omega), Bool.true_and] at hr
  obtain ⟨ke, hke⟩ : ∃ b, (decide (n.sum = zsum) && decide (n.kn = 0)) = b := ⟨_, rfl⟩
  rw [hke] at hr
  have KE := Lib.hid hke
  clear hke cc hbox hcs
  obtain ⟨k, hk⟩ : ∃ k, k = n.kind.toNat := ⟨_, rfl⟩
  rw [← hk] at i1 i2 i3 i4 c0
  by_cases k1 : k = 1
  · rw [if_pos (i1.2 k1)] at hr
    subst hr
    obtain rfl := k1
    clear i1 i2 i3 i4 hk
    go_enter Try.func13, Try.ntmps13
    go_wp2
    go_ret
    exact ⟨rfl, HB.out⟩
  rw [if_neg (fun h => k1 (i1.1 h))] at hr
  by_cases k2 : k = 2
  · rw [if_pos (i2.2 k2)] at hr
    subst hr
    obtain rfl := k2
    clear i1 i2 i3 i4 hk k1
    by_cases hz : len = 0
    · subst hz
      cases ke
      all_goals
        go_enter Try.func13, Try.ntmps13
        go_wp2_with (first
          | (refine wpList_val rfl (load_key _ KL.out rfl _ RK.out rfl) ?_)
          | (refine wpList_val rfl (zero_key rfl _ _) ?_)
          | (refine wpList_val rfl (eql_key rfl HS.out rfl KE.out _ _ rfl rfl) ?_))
        go_ret
        exact ⟨rfl, HB.out⟩
    · have hz' : ((len : Int) == 0) = false := by simp; omega
      cases ke
      all_goals
        go_enter Try.func13, Try.ntmps13
        go_wp2_with (first
          | (refine wpList_val rfl (load_key _ KL.out rfl _ RK.out rfl) ?_)
          | (refine wpList_val rfl (zero_key rfl _ _) ?_)
          | (refine wpList_val rfl (eql_key rfl HS.out rfl KE.out _ _ rfl rfl) ?_))
        go_ret
        exact ⟨by simp [hz], HB.out⟩
  rw [if_neg (fun h => k2 (i2.1 h))] at hr
  obtain ⟨ad, had⟩ : ∃ a, a = n.addr := ⟨_, rfl⟩
  rw [← had] at c1 hr
  by_cases k3 : k = 3
  · rw [if_pos (i3.2 k3)] at hr
    subst hr
    obtain rfl := k3
    clear i1 i2 i3 i4 hk k1 k2 had
    by_cases ha : ad = 0
    · subst ha
      by_cases hz : len = 0
      · subst hz
        cases ke
        all_goals
          go_enter Try.func13, Try.ntmps13
          go_wp2_with (first
            | (refine wpList_val rfl (load_key _ KL.out rfl _ RK.out rfl) ?_)
            | (refine wpList_val rfl (zero_key rfl _ _) ?_)
            | (refine wpList_val rfl (eql_key rfl HS.out rfl KE.out _ _ rfl rfl) ?_))
          go_ret
          exact ⟨by simp, HB.out⟩
      · have hz' : ((len : Int) == 0) = false := by simp; omega
        cases ke
        all_goals
          go_enter Try.func13, Try.ntmps13
          go_wp2_with (first
            | (refine wpList_val rfl (load_key _ KL.out rfl _ RK.out rfl) ?_)
            | (refine wpList_val rfl (zero_key rfl _ _) ?_)
            | (refine wpList_val rfl (eql_key rfl HS.out rfl KE.out _ _ rfl rfl) ?_))
          go_ret
          exact ⟨by simp [hz], HB.out⟩
    · have ha' : ((ad : Int) == 0) = false := by simp; omega
      go_enter Try.func13, Try.ntmps13
      go_wp2_with (first
        | (refine wpList_val rfl (load_key _ KL.out rfl _ RK.out rfl) ?_)
        | (refine wpList_val rfl (zero_key rfl _ _) ?_)
        | (refine wpList_val rfl (eql_key rfl HS.out rfl KE.out _ _ rfl rfl) ?_))
      go_ret
      exact ⟨by simp [ha], HB.out⟩
  rw [if_neg (fun h => k3 (i3.1 h))] at hr
  obtain ⟨sq, hsq⟩ : ∃ a, a = n.seq := ⟨_, rfl⟩
  rw [← hsq] at c2 hr
  by_cases k4 : k = 4
  · rw [if_pos (i4.2 k4)] at hr
    subst hr
    obtain rfl := k4
    clear i1 i2 i3 i4 hk k1 k2 k3 had hsq
    by_cases ha : ad = 0
    · subst ha
      by_cases hq : sq = 0
      · subst hq
        by_cases hz : 0 < (len : Int)
        · have hz2 : 0 < len := by omega
          go_enter Try.func13, Try.ntmps13
          go_wp2_with (first
            | (refine wpList_val rfl (load_key _ KL.out rfl _ RK.out rfl) ?_)
            | (refine wpList_val rfl (zero_key rfl _ _) ?_)
            | (refine wpList_val rfl (eql_key rfl HS.out rfl KE.out _ _ rfl rfl) ?_))
          go_ret
          exact ⟨by simp [hz2], HB.out⟩
        · have hz2 : ¬ 0 < len := by omega
          go_enter Try.func13, Try.ntmps13
          go_wp2_with (first
            | (refine wpList_val rfl (load_key _ KL.out rfl _ RK.out rfl) ?_)
            | (refine wpList_val rfl (zero_key rfl _ _) ?_)
            | (refine wpList_val rfl (eql_key rfl HS.out rfl KE.out _ _ rfl rfl) ?_))
          go_ret
          exact ⟨by simp [hz2], HB.out⟩
      · have hq' : ((sq : Int) == 0) = false := by simp; omega
        go_enter Try.func13, Try.ntmps13
        go_wp2_with (first
          | (refine wpList_val rfl (load_key _ KL.out rfl _ RK.out rfl) ?_)
          | (refine wpList_val rfl (zero_key rfl _ _) ?_)
          | (refine wpList_val rfl (eql_key rfl HS.out rfl KE.out _ _ rfl rfl) ?_))
        go_ret
        exact ⟨by simp [hq], HB.out⟩
    · have ha' : ((ad : Int) == 0) = false := by simp; omega
      go_enter Try.func13, Try.ntmps13
      go_wp2_with (first
        | (refine wpList_val rfl (load_key _ KL.out rfl _ RK.out rfl) ?_)
        | (refine wpList_val rfl (zero_key rfl _ _) ?_)
        | (refine wpList_val rfl (eql_key rfl HS.out rfl KE.out _ _ rfl rfl) ?_))
      go_ret
      exact ⟨by simp [ha], HB.out⟩
  rw [if_neg (fun h => k4 (i4.1 h))] at hr
  subst hr
  have e1 : ((k : Int) == 1) = false := by simp; omega
  have e2 : ((k : Int) == 2) = false := by simp; omega
  have e3 : ((k : Int) == 3) = false := by simp; omega
  have e4 : ((k : Int) == 4) = false := by simp; omega
  clear i1 i2 i3 i4 hk k1 k2 k3 k4 had hsq
  go_enter Try.func13, Try.ntmps13
  go_wp2
  go_ret
  exact ⟨rfl, HB.out⟩
end Rec
end Go.Proofs.Ytefbcoakjdjkgaa
