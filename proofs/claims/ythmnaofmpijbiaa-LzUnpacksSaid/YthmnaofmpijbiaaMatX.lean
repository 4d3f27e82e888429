/- The landed All, and what the landed package keeps. -/
import Derived.Test.YthmnaofmpijbiaaMatW
import Derived.Test.YthmnaofmpijbiaaMatQ
namespace Go.Proofs.Ythmnaofmpijbiaa
open Go.RowKit Go.Own Go.Maps
namespace Mat
open Go.MatM Byt

/-- what has been seen, and nothing behind it -/
def upto (l : Bs) (len i : Nat) : List (Nat × Nat) := (List.range i).map (longest l) ++ List.replicate (len - i) (0, 0)
theorem upto_zero (l : Bs) (len : Nat) : upto l len 0 = List.replicate len (0, 0) := by simp [upto]
theorem upto_set (l : Bs) (len i : Nat) (h : i < len) : (upto l len i).set i (longest l i) = upto l len (i + 1) := by
  unfold upto
  obtain ⟨r, hr⟩ : ∃ r, len - i = r + 1 := ⟨len - i - 1, by omega⟩
  rw [hr, show len - (i + 1) = r by omega, List.set_append_right _ _ (by simp), List.range_succ, List.map_append]
  simp [List.replicate_succ]
theorem upto_end (l : Bs) (len i : Nat) (hl : l.length = len) (h1 : i ≤ len) (h : len < i + 3) : upto l len i = alls l := by
  unfold upto alls
  rw [hl]
  obtain ⟨r, hr⟩ : ∃ r, len = i + r := ⟨len - i, by omega⟩
  have e : List.range len = List.range i ++ (List.range r).map (fun j => i + j) := by rw [hr, List.range_add]
  rw [e, List.map_append]
  congr 1
  rw [show len - i = r by omega, List.map_map]
  symm
  rw [List.eq_replicate_iff]
  refine ⟨by simp, fun x hx => ?_⟩
  rw [List.mem_map] at hx
  obtain ⟨j, _, rfl⟩ := hx
  exact longest_short l (i + j) (by omega)

theorem look_op {B : Nat} {w0 w : World} {Ps : List Asn} {b n : Nat} {g : Lit → Value} {f : Lit → List Nat} (H : St B w0 w Ps) (i : Nat) (hi : Ps[i]? = some (AG b n g f)) (p q r : UInt8) {o : Oper} {x y : Tmp} (ho : o.op = .lookup 45 (.tmp x) (.tmp y) false) (ρ : Operand → Value) (h0 : ρ (.tmp x) = .map (some b)) (h1 : ρ (.tmp y) = hdV p q r) :
    (execOp ρ o).run Try.prog w = .ok (.value (g (hdL p q r))) w := by
  have h := ag_look H i hi p q r
  simp [execOp, ho, h0, h1, h, go_sem]

set_option maxHeartbeats 4000000 in
theorem all_any (ao : Option Addr) (len cap : Nat) (l : Bs) (w : World) (hG : Given w ao len cap l) (hb : len ≤ 1000000) :
    Calls Try.prog 19 #[.slice ao len cap] w (AllDone l len w) := by
  have HG := Lib.hid hG
  have HL := Lib.hid hG.size
  clear hG
  obtain ⟨w1, pA, hmk, hst1⟩ : ∃ w1 pA, (Instr.makeSlice 33 (.int .i64 (len : Int)) (.int .i64 (len : Int))).run Try.prog w = .ok (.slice (some ⟨pA, 0, none⟩) len len) w1 ∧ Own.St w.heap.size w w1 [AQ (some ⟨pA, 0, none⟩) len len (List.replicate len (0, 0))] := by
    obtain ⟨w1, h1, h2⟩ := aq_make (Own.St.start w) .i64 .i64 len (by omega)
    exact ⟨w1, _, h1, h2⟩
  obtain ⟨w2, bM, hmm, hst2⟩ : ∃ w2 bM, (Instr.makeMap 45 none).run Try.prog w1 = .ok (.map (some bM)) w2 ∧ Own.St w.heap.size w w2 [AG bM 0 (fun _ => .slice none 0 0) (fun _ => []), AQ (some ⟨pA, 0, none⟩) len len (List.replicate len (0, 0))] :=
    ⟨_, _, rfl, ag_made hst1⟩
  have HS1 := Lib.hid hst2
  clear hst1 hst2
  have P1 := Lib.hid (fun (i : Nat) (h : i + 3 ≤ len) wx => hasHead_any ao len cap (i : Int) true (decide_eq_true (by omega)) wx (by omega) (by omega))
  have P0 := Lib.hid (fun (i : Nat) (hi : i < len) (h : ¬ i + 3 ≤ len) wx => hasHead_any ao len cap (i : Int) false (decide_eq_false (by omega)) wx (by omega) (by omega))
  have CH : Hid (∀ wx j, Below w.heap.size w wx → j + 3 ≤ len → Calls Try.prog 28 #[.slice ao len cap, .int .i64 (j : Int)] wx fun e w' => e = .returned (hdV (by' l j) (by' l (j + 1)) (by' l (j + 2))) ∧ Below wx.heap.size wx w') :=
    fun wx j hwx hj => headAt_any ao len cap l j wx (HG.out.later hwx) hb hj
  go_enter Try.func19, Try.ntmps19
  go_wp2
  clear hmk hmm
  go_loopw [13] (fun v13 wr => ∃ (i n : Nat) (g : Lit → Value) (f : Lit → List Nat), i ≤ len ∧ n ≤ i ∧ v13 = .int .i64 (i : Int) ∧ FI l i f ∧ Own.St w.heap.size w wr [AG bM n g f, AQ (some ⟨pA, 0, none⟩) len len (upto l len i)]) (fun v13 _ => len - (intOf v13).toNat)
  case atStart => exact ⟨0, 0, _, _, Nat.zero_le _, Nat.le_refl _, rfl, FI.zero l, by rw [upto_zero]; exact HS1.out⟩
  case round =>
    obtain ⟨i, n, g, f, hil, hni, rfl, hfi, H⟩ := hrel
    have H := Lib.hid H
    have HFI := Lib.hid hfi
    clear HS1 hfi
    by_cases hi : i < len
    · by_cases h3 : i + 3 ≤ len
      · have Q1 := Lib.hid (P1.out i h3)
        have K1 := Lib.hid (CH.out wr i H.out.below h3)
        clear P1 P0
        go_wp2_with (refine (Q1.out _).mono ?_; clear Q1; rintro e w' ⟨rfl, rfl⟩)
        refine K1.out.mono ?_
        clear K1
        rintro e w3 ⟨rfl, h3'⟩
        have H3 := Lib.hid (H.out.later h3')
        clear h3' H
        obtain ⟨kl, hkl⟩ : ∃ kl, kl = hdL (by' l i) (by' l (i + 1)) (by' l (i + 2)) := ⟨_, rfl⟩
        have HKL := Lib.hid hkl
        have hW : Calls Try.prog 27 #[g kl, .int .i64 (i : Int)] w3 fun e w' => ∃ v', e = .returned v' ∧ w3 = w' ∧ Slc w3 v' (near l i) ∧ v'.ownBlock = (g kl).ownBlock := by
          obtain ⟨q1, q2⟩ := HFI.out.few (by' l i) (by' l (i + 1)) (by' l (i + 2))
          rw [← hkl] at q1 q2
          have h := within_any (g kl) (f kl) i w3 (ag_slc H3.out 0 rfl kl) (by omega) (fun k hk => by have := q2 k hk; omega) (by omega)
          have e := HFI.out.nearby
          rw [← hkl] at e
          rw [e] at h
          exact h
        have HW := Lib.hid hW
        clear hW hkl
        go_wp2_with (refine wpList_val rfl (look_op H3.out 0 rfl _ _ _ rfl _ rfl rfl) ?_; rw [← HKL.out])
        refine HW.out.mono ?_
        clear HW
        rintro e w4 ⟨v', rfl, rfl, hs, hvb⟩
        have HVB := Lib.hid hvb
        have HSL := Lib.hid hs
        clear hvb hs
        have HCH := Lib.hid (choose_in H3.out.below HG.out i v' hb h3 HSL.out)
        obtain ⟨d, x, hdx⟩ : ∃ d x, longest l i = (d, x) := ⟨_, _, rfl⟩
        rw [hdx] at HCH
        have HDX := Lib.hid hdx
        clear hdx
        go_wp2_with (fail)
        refine HCH.out.mono ?_
        clear HCH
        rintro e w5 ⟨rfl, h5⟩
        have H5 := Lib.hid (H3.out.later h5)
        have HSL5 := Lib.hid (HSL.out.later h5)
        clear h5 H3 HSL
        obtain ⟨⟨u0, c0⟩, ⟨u1, c1⟩, f0, f1, hput⟩ := aq_put H5.out 1 0 (by decide) rfl rfl i hi
        obtain ⟨hp1, hp2⟩ := hput d x
        have H6 := Lib.hid hp1
        have HSL6 := Lib.hid (hp2 v' _ kl HSL5.out HVB.out)
        clear hput hp1 hp2 H5 HSL5
        go_wp2_with (fail)
        obtain ⟨w6, hw6⟩ : ∃ w6, w6 = (w5.setCell ⟨pA, i * 2, none⟩ (.int .i64 (d : Int))).setCell ⟨pA, i * 2 + 1, none⟩ (.int .i64 (x : Int)) := ⟨_, rfl⟩
        rw [← hw6] at H6 HSL6 ⊢
        clear hw6 c0 c1 f0 f1 u0 u1
        refine (CH.out w6 i H6.out.below h3).mono ?_
        rintro e w7 ⟨rfl, h7⟩
        have H7 := H6.out.later h7
        have HSL7 := HSL6.out.later h7
        rw [List.set_cons_succ, List.set_cons_zero, ← HDX.out, upto_set l len i hi] at H7
        clear h7 H6 HSL6
        obtain ⟨v2, w8, hr1, w9, g', hr2, hst9⟩ := ag_push (H7.alloc (.cells #[.int .i64 (i : Int)] 3)) 0 rfl (by' l i) (by' l (i + 1)) (by' l (i + 2)) 46 v' (near l i)
          (HSL7.later ((Below.refl _ _).alloc (Nat.le_refl _) _)) (by rw [HVB.out, HKL.out]) (by omega) i ⟨w7.heap.size, 0, none⟩ (by simp [nv]) rfl (by have := near_len l i; omega)
        have HR1 := Lib.hid hr1
        have H9 := Lib.hid hst9
        have HFN := Lib.hid HFI.out.next
        clear hr1 hst9 H7 HSL7
        go_wp2_with (at_builtin; refine wpList_app rfl (.tmp 38) (.tmp 40) rfl v' ⟨w7.heap.size, 0, none⟩ rfl rfl v2 w8 HR1.out ?_)
        go_roundw
        case rel => exact ⟨i + 1, n + 1, g', _, by omega, by omega, by go_num, HFN.out, H9.out⟩
        case measure => simp [intOf]; omega
      · have Q0 := Lib.hid (P0.out i hi h3)
        obtain ⟨T, hrow, hst⟩ := row_out H.out 1 rfl
        rw [upto_end l len i HL.out hil (by omega)] at hrow
        have HR := Lib.hid hrow
        have HS := Lib.hid hst
        clear hrow hst H P0 P1
        go_wp2_with (refine (Q0.out _).mono ?_; clear Q0; rintro e w' ⟨rfl, rfl⟩)
        go_ret
        exact ⟨_, _, T, rfl, HR.out, HS.out⟩
    · obtain ⟨T, hrow, hst⟩ := row_out H.out 1 rfl
      rw [upto_end l len i HL.out hil (by omega)] at hrow
      have HR := Lib.hid hrow
      have HS := Lib.hid hst
      clear hrow hst H P0 P1
      go_wp2
      go_ret
      exact ⟨_, _, T, rfl, HR.out, HS.out⟩

end Mat
end Go.Proofs.Ythmnaofmpijbiaa
