/- SpongeStates: the walk. -/
import Derived.Test.YtfbpajiddkehnaaDoorLawSpoB
namespace Go.Proofs.YtfbpajiddkehnaaDoor
open Go.RowKit Go.Own
namespace Spo
open Go.KecM Go.SpoM Byt

/-- an element of a slice of slices that came in, in every later world -/
theorem elem_bytes {xs : List (List UInt8)} {W : World} {ao : Option Addr} {n cap : Nat} (h : inSlice 1 inBytes xs W.heap.size W [.slice ao n cap]) :
    n = xs.length ∧ ∀ i, i < n → ∃ b o a c, ao = some ⟨b, o, none⟩ ∧ ∀ w, Below W.heap.size W w → w.cell? ⟨b, o + i, none⟩ = some (.slice a (xs.getD i []).length c) ∧ (xs.getD i []).length ≤ c ∧ c ≤ maxLen ∧ (a = none → (xs.getD i []).length = 0 ∧ c = 0) ∧ View w (fun k => k < W.heap.size) a (xs.getD i []) := by
  obtain ⟨ao', cap', h1, _, _, _, h5⟩ := h
  simp only [List.cons.injEq, Value.slice.injEq, and_true] at h1
  obtain ⟨rfl, rfl, rfl⟩ := h1
  refine ⟨rfl, fun i hi => ?_⟩
  rcases h5 with rfl | ⟨b, o, rfl, hb, _, hc⟩
  · simp at hi
  · obtain ⟨cs', k1, k2, a, c, e, g1, g2, g3, g4⟩ := hc i hi
    refine ⟨b, o, a, c, rfl, fun w hw => ?_⟩
    have e1 : xs.getD i [] = xs[i] := by simp [hi]
    rw [e1]
    have k := k2 0 (by decide)
    rw [e] at k
    simp only [Nat.mul_one, Nat.add_zero, List.getElem?_cons_zero] at k
    exact ⟨(World.cell?_of_block (w := W) (hw.block b hb)).trans k, g1, g2, fun h => ⟨by rw [vnone g4 h]; rfl, g3 h⟩, View.below g4 hw⟩

theorem ab_empty {B : Nat} {w0 w : World} {Ps : List Asn} (H : St B w0 w Ps) : St B w0 (w.alloc (.cells #[] 5)) (AB (some ⟨w.heap.size, 0, none⟩) 0 0 [] :: Ps) :=
  H.new (S' := fun k => k = w.heap.size) (AB _ 0 0 []) (Row.made w #[] 5 1 0 (Nat.zero_le _) rfl) (((Step.refl (fun _ => False) w).alloc _).to (fun k hk => Or.inr (Nat.le_of_eq hk.symm)))

theorem neqSum {o : Oper} {x y : Tmp} (ho : o.op = .binOp .neq 25 (.tmp x) (.tmp y) 25) {s t : List UInt8} (hs : s.length = 32) (ht : t.length = 32) {v : Bool} (hv : decide (s = t) = v) (ρ : Operand → Value) (w : World)
    (h0 : ρ (.tmp x) = .agg (s.map byteV).toArray) (h1 : ρ (.tmp y) = .agg (t.map byteV).toArray) : (execOp ρ o).run Tryd.prog w = .ok (.value (.bool (!v))) w := by
  have e0 : ∀ l : List UInt8, l.map byteV = (l.map (fun c => (c.toNat : Int))).map (Value.int .u8) := fun l => by simp [byteV]
  have h := run_equalIn_ints (P := Tryd.prog) 9998 25 5 .u8 (s.map (fun c => (c.toNat : Int))) (t.map (fun c => (c.toNat : Int))) (by simp [hs, ht]) (by rw [List.length_map, hs]; exact Tryd.underlying25) Tryd.underlying5 (fun w => by kernel_rfl) (fun w => by kernel_rfl) w
  have hd : decide (s.map (fun c => (c.toNat : Int)) = t.map (fun c => (c.toNat : Int))) = decide (s = t) := by
    apply decide_eq_decide.2
    constructor
    · intro h
      exact (List.map_inj_right (fun x y h => UInt8.toNat_inj.1 (by omega))).1 h
    · rintro rfl; rfl
  rw [hd, hv, ← e0, ← e0] at h
  have h' : (Op.equalIn 10000 25 (.agg (s.map byteV).toArray) (.agg (t.map byteV).toArray)).run Tryd.prog w = .ok v w := h
  unfold execOp
  simp only [ho, h0, h1]
  generalize (s.map byteV).toArray = A at h' ⊢
  generalize (t.map byteV).toArray = B at h' ⊢
  simp [go_sem, h']
theorem wpList_neq_sum {ops : Array Oper} {rest : List Oper} {o : Oper} {a : Act} {w : World} {Q : Exit → Act → World → Prop} (hw : Region.wanted o (yielded ops a.tmps) = true) (x y : Tmp) (ho : o.op = .binOp .neq 25 (.tmp x) (.tmp y) 25)
    {s : List UInt8} (hs : s.length = 32) (hx : a.eval (.tmp x) = .agg (s.map byteV).toArray) (hy : a.eval (.tmp y) = .agg (s.map byteV).toArray)
    (h : wpList Tryd.prog ops Q rest (a.put o.dst (.bool false)) w) : wpList Tryd.prog ops Q (o :: rest) a w :=
  wpList_val hw (neqSum ho hs hs (decide_eq_true rfl) _ w hx hy) h

set_option maxHeartbeats 3200000 in
theorem walk_states (ao : Option Addr) (L cap : Nat) (xs : List (List UInt8)) {w : World} (w0 : inSlice 1 inBytes xs w.heap.size w [.slice ao L cap]) (K : Kept w) :
    Calls Tryd.prog 4 #[.slice ao L cap] w (RetYes w) := by
  obtain ⟨hL, hel⟩ := elem_bytes w0
  have HEL := Lib.hid hel
  have SH := Lib.hid (shown_any K)
  have HLB : Hid (L ≤ maxLen) := by
    obtain ⟨_, _, h1, h2, h3, _⟩ := w0
    simp only [List.cons.injEq, Value.slice.injEq, and_true] at h1
    show L ≤ maxLen
    omega
  have hLb : (L : Int) ≤ 9223372036854775807 := by have := HLB.out; unfold maxLen at this; omega
  clear hL hel w0
  go_enter Tryd.func4, Tryd.ntmps4
  go_wp2_with (fail)
  refine SH.out.mono ?_
  rintro e wa ⟨rfl, hwa⟩
  have B1 := Lib.hid ((Own.St.start w).later hwa)
  clear hwa
  go_wp2_with (fail)
  refine (new_st K B1.out).mono ?_
  rintro e wb ⟨p, rfl, hb⟩
  have B2 := Lib.hid (ab_nil hb)
  clear hb B1
  go_wp2_with (fail)
  go_loopw [5, 17] (fun v5 v17 wr => ∃ (i n : Nat) (ax : Option Addr) (cx : Nat) (done : List UInt8), i ≤ L ∧ i ≤ 50 ∧ n ≤ 2000 * i ∧ done.length = n ∧ v17 = .int .i64 (i : Int) ∧ v5 = .slice ax n cx ∧ Own.St w.heap.size w wr [AB ax n cx done, K.A p done]) (fun _ v17 _ => L - (intOf v17).toNat)
  case atStart => exact ⟨0, 0, none, 0, [], Nat.zero_le _, Nat.zero_le _, Nat.zero_le _, rfl, rfl, rfl, B2.out⟩
  case round =>
    obtain ⟨i, n, ax, cx, done, hiL, hi50, hn, hdn, rfl, rfl, H⟩ := hrel
    have H := Lib.hid H
    have HDN := Lib.hid hdn
    have hnb : n ≤ 100000 := by omega
    clear hdn B2
    by_cases hi : i < L
    · by_cases h50 : (50 : Int) ≤ (i : Int)
      · obtain ⟨S, hS⟩ : ∃ l, l = sha done := ⟨_, rfl⟩
        have LS : Hid (S.length = 32) := by rw [hS]; exact sha_len _
        have CR : Hid (∀ wx, Below wr.heap.size wr wx → Calls Tryd.prog 11 #[.slice ax n cx] wx fun e w' => e = .returned (.agg (S.map byteV).toArray) ∧ Below wx.heap.size wx w') := by
          intro wx hwx
          rw [hS]
          have hl := ab_len (H.out.later hwx) 0 rfl
          exact shaRef_any ax n cx done wx ((ab_view (H.out.later hwx) 0 rfl).live.mono (fun k hk => hk.2)) hl.1 (fun h => (hl.2.2.2 h).2) (by omega)
        have CS : Hid (Calls Tryd.prog 14 #[.pointer (some ⟨p, 0, none⟩)] wr fun e w' => e = .returned (.agg (S.map byteV).toArray) ∧ Below wr.heap.size wr w') := by
          rw [hS]
          exact sum_st K H.out 1 rfl (by rw [HDN.out]; omega)
        clear hS
        go_wp2_with (fail)
        refine CS.out.mono ?_
        rintro e wy ⟨rfl, hwy⟩
        have BY := Lib.hid hwy
        clear hwy
        go_wp2_with (fail)
        refine (CR.out wy BY.out).mono ?_
        rintro e wz ⟨rfl, hwz⟩
        have BZ := Lib.hid (H.out.later (BY.out.trans (hwz.mono BY.out.size)))
        clear hwz
        go_wp2_with (refine wpList_eql_sum rfl 65 67 rfl LS.out LS.out (decide_eq_true rfl) rfl rfl ?_)
        go_ret
        exact ⟨rfl, BZ.out.below⟩
      · obtain ⟨be, oe, a, c, rfl, hcell⟩ := HEL.out i hi
        obtain ⟨y, hy⟩ : ∃ y, y = xs.getD i [] := ⟨_, rfl⟩
        rw [← hy] at hcell
        obtain ⟨m, hm⟩ : ∃ m, m = y.length := ⟨_, rfl⟩
        rw [← hm] at hcell
        have HC := Lib.hid hcell
        have HM := Lib.hid hm
        clear hcell hy hm
        have cell := (HC.out wr H.out.below).1
        have hcm : (m : Int) ≤ 9223372036854775807 := by have := (HC.out wr H.out.below).2.1; have := (HC.out wr H.out.below).2.2.1; unfold maxLen at this; omega
        by_cases h2000 : (2000 : Int) < (m : Int)
        · obtain ⟨S, hS⟩ : ∃ l, l = sha done := ⟨_, rfl⟩
          have LS : Hid (S.length = 32) := by rw [hS]; exact sha_len _
          have CR : Hid (∀ wx, Below wr.heap.size wr wx → Calls Tryd.prog 11 #[.slice ax n cx] wx fun e w' => e = .returned (.agg (S.map byteV).toArray) ∧ Below wx.heap.size wx w') := by
            intro wx hwx
            rw [hS]
            have hl := ab_len (H.out.later hwx) 0 rfl
            exact shaRef_any ax n cx done wx ((ab_view (H.out.later hwx) 0 rfl).live.mono (fun k hk => hk.2)) hl.1 (fun h => (hl.2.2.2 h).2) (by omega)
          have CS : Hid (Calls Tryd.prog 14 #[.pointer (some ⟨p, 0, none⟩)] wr fun e w' => e = .returned (.agg (S.map byteV).toArray) ∧ Below wr.heap.size wr w') := by
            rw [hS]
            exact sum_st K H.out 1 rfl (by rw [HDN.out]; omega)
          clear hS
          go_wp2_with (fail)
          refine CS.out.mono ?_
          rintro e wy ⟨rfl, hwy⟩
          have BY := Lib.hid hwy
          clear hwy
          go_wp2_with (fail)
          refine (CR.out wy BY.out).mono ?_
          rintro e wz ⟨rfl, hwz⟩
          have BZ := Lib.hid (H.out.later (BY.out.trans (hwz.mono BY.out.size)))
          clear hwz
          go_wp2_with (refine wpList_eql_sum rfl 65 67 rfl LS.out LS.out (decide_eq_true rfl) rfl rfl ?_)
          go_ret
          exact ⟨rfl, BZ.out.below⟩
        · have hm2 : m ≤ 2000 := by omega
          have hi50' : i < 50 := by omega
          have HE := Lib.hid (ab_empty H.out)
          have ce := cell_alloc cell (.cells #[] 5)
          have HV := Lib.hid (HC.out _ HE.out.below)
          go_wp2_with (at_builtin; refine Byt.wpList_ab_append rfl (.tmp 30) (.tmp 34) rfl HE.out 0 rfl rfl a m c y rfl (fun h => HV.out.2.2.2.1 h) HM.out.symm (vcells HV.out.2.2.2.2) (by omega) ?_; intro ay cy wc hc'; simp only [Nat.zero_add, List.nil_append, List.set_cons_zero] at hc'; have HO := Lib.hid hc'; clear hc'; clear cell ce)
          refine (write_own K HO.out 2 0 (by decide) rfl rfl (by rw [HDN.out]; omega)).mono ?_
          rintro e wd ⟨rfl, hd⟩
          have HP : Hid (Own.St w.heap.size w wd [AB ay m cy y, AB ax n cx done, K.A p (done ++ y)]) := hd
          clear hd HO HE HV
          have hlo := Lib.hid (ab_len HP.out 0 rfl)
          go_wp2_with (at_builtin; refine Byt.wpList_ab_append rfl (.tmp 39) (.tmp 40) rfl HP.out 1 rfl rfl ay m cy y rfl (fun h => hlo.out.2.2.2 h) HM.out.symm (vcells (ab_view HP.out 0 rfl)) (by omega) ?_; intro az cz we he'; simp only [List.set_cons_zero, List.set_cons_succ] at he'; have HQ := Lib.hid he'; clear he')
          clear HP
          obtain ⟨n2, hn2⟩ : ∃ n2, n2 = n + m := ⟨_, rfl⟩
          rw [← hn2] at HQ ⊢
          obtain ⟨all, hall⟩ : ∃ l, l = done ++ y := ⟨_, rfl⟩
          rw [← hall] at HQ
          have HALL : Hid (all.length = n2) := by show all.length = n2; rw [hall, List.length_append, HDN.out, ← HM.out, hn2]
          have HN2 := Lib.hid hn2
          have hn2b : n2 ≤ 102000 := by omega
          clear hall hn2 hlo
          go_loopw [44] (fun v wr => ∃ (k : Nat) (z : List UInt8), k ≤ m ∧ v = .int .i64 (k : Int) ∧ Own.St w.heap.size w wr [AB ay m cy z, AB az n2 cz all, K.A p all]) (fun v _ => m - (intOf v).toNat)
          case atStart => exact ⟨0, y, Nat.zero_le _, rfl, HQ.out⟩
          case round =>
            obtain ⟨k, z, hkm, rfl, G⟩ := hrel
            have G := Lib.hid G
            by_cases hk : k < m
            · obtain ⟨g, rfl, cb, fb, hput⟩ := ab_byte G.out 0 rfl k hk
              obtain ⟨c0, hc0⟩ : ∃ c, c = z.getD k 0 := ⟨_, rfl⟩
              rw [← hc0] at cb
              obtain ⟨c1, hc1⟩ : ∃ c, c = c0 ^^^ 85 := ⟨_, rfl⟩
              have hxor : bits .xor .u8 (c0.toNat : Int) 85 = (c1.toNat : Int) := by
                have h := u8_xor_nat c0.toNat 85 c0.toNat_lt (by omega)
                rw [hc1, UInt8.toNat_xor]
                exact h
              have PUT := Lib.hid (hput c1)
              clear hput hc0 hc1 HQ
              go_wp2
              go_roundw
              case rel => exact ⟨k + 1, z.set k c1, by omega, by go_num, PUT.out⟩
              case measure => simp [intOf]; omega
            · obtain ⟨S, hS⟩ : ∃ l, l = sha all := ⟨_, rfl⟩
              have LS : Hid (S.length = 32) := by rw [hS]; exact sha_len _
              have CS : Hid (∀ wx, Below wr.heap.size wr wx → Calls Tryd.prog 14 #[.pointer (some ⟨p, 0, none⟩)] wx fun e w' => e = .returned (.agg (S.map byteV).toArray) ∧ Below wx.heap.size wx w') := by
                intro wx hwx
                rw [hS]
                exact sum_st K (G.out.later hwx) 2 rfl (by rw [HALL.out]; omega)
              clear hS HQ
              go_wp2_with (fail)
              refine (CS.out wr (Below.refl _ _)).mono ?_
              rintro e wf ⟨rfl, hf⟩
              have BF := Lib.hid hf
              clear hf
              go_wp2_with (fail)
              refine (CS.out wf BF.out).mono ?_
              rintro e wg ⟨rfl, hg⟩
              have GG := Lib.hid (G.out.later (BF.out.trans (hg.mono BF.out.size)))
              clear hg BF G
              have hst := A8.box (A8.box GG.out 25 (List.replicate 32 0)) 25 (List.replicate 32 0)
              simp only [size_alloc'] at hst
              have THERE1 := Lib.hid (A8.there hst 1 rfl S (by rw [LS.out]; rfl))
              have ALL1 := Lib.hid (A8.setAll hst 1 rfl S (by rw [LS.out]; rfl))
              have THERE2 := Lib.hid (A8.there ALL1.out 0 rfl S (by rw [LS.out]; rfl))
              have ALL2 := Lib.hid (A8.setAll ALL1.out 0 rfl S (by rw [LS.out]; rfl))
              have R1 := Lib.hid (A8.row ALL2.out 1 rfl)
              have R2 := Lib.hid (A8.row ALL2.out 0 rfl)
              have I1 := Lib.hid (info_sum S LS.out)
              have O1 := Lib.hid (one8 S)
              clear hst
              go_wp2_with (first
                | (refine wpList_store_mid rfl 25 (.tmp 9) (.tmp 55) rfl wg.heap.size 0 (S.map byteV).toArray rfl rfl THERE1.out I1.out O1.out ?_)
                | (refine wpList_store_mid rfl 25 (.tmp 10) (.tmp 57) rfl (wg.heap.size + 1) 0 (S.map byteV).toArray rfl rfl THERE2.out I1.out O1.out ?_)
                | (refine wpList_load_row rfl 25 (.tmp 9) rfl wg.heap.size rfl 25 _ (0, 0) _ R1.out Tryd.underlying25 rfl I1.out ?_)
                | (refine wpList_load_row rfl 25 (.tmp 10) rfl (wg.heap.size + 1) rfl 25 _ (0, 0) _ R2.out Tryd.underlying25 rfl I1.out ?_)
                | (refine wpList_neq_sum rfl 58 59 rfl LS.out rfl rfl ?_))
              go_roundw
              case rel => exact ⟨i + 1, n2, az, cz, all, by omega, by omega, by have := HN2.out; omega, HALL.out, by go_num, rfl, ALL2.out.drop 3⟩
              case measure => simp [intOf]; omega
    · obtain ⟨S, hS⟩ : ∃ l, l = sha done := ⟨_, rfl⟩
      have LS : Hid (S.length = 32) := by rw [hS]; exact sha_len _
      have CR : Hid (∀ wx, Below wr.heap.size wr wx → Calls Tryd.prog 11 #[.slice ax n cx] wx fun e w' => e = .returned (.agg (S.map byteV).toArray) ∧ Below wx.heap.size wx w') := by
        intro wx hwx
        rw [hS]
        have hl := ab_len (H.out.later hwx) 0 rfl
        exact shaRef_any ax n cx done wx ((ab_view (H.out.later hwx) 0 rfl).live.mono (fun k hk => hk.2)) hl.1 (fun h => (hl.2.2.2 h).2) (by omega)
      have CS : Hid (Calls Tryd.prog 14 #[.pointer (some ⟨p, 0, none⟩)] wr fun e w' => e = .returned (.agg (S.map byteV).toArray) ∧ Below wr.heap.size wr w') := by
        rw [hS]
        exact sum_st K H.out 1 rfl (by rw [HDN.out]; omega)
      clear hS
      go_wp2_with (fail)
      refine CS.out.mono ?_
      rintro e wy ⟨rfl, hwy⟩
      have BY := Lib.hid hwy
      clear hwy
      go_wp2_with (fail)
      refine (CR.out wy BY.out).mono ?_
      rintro e wz ⟨rfl, hwz⟩
      have BZ := Lib.hid (H.out.later (BY.out.trans (hwz.mono BY.out.size)))
      clear hwz
      go_wp2_with (refine wpList_eql_sum rfl 65 67 rfl LS.out LS.out (decide_eq_true rfl) rfl rfl ?_)
      go_ret
      exact ⟨rfl, BZ.out.below⟩

end Spo
end Go.Proofs.YtfbpajiddkehnaaDoor
