/- Layer 8: the document's disk: New. -/
import Derived.Test.YtkddeccgoamopaaBakRd
import Derived.Test.YtkddeccgoamopaaCpy
import Derived.Deep.RegionLaw
namespace Go.Proofs.Ytkddeccgoamopaa
open Go.RowKit Go.Own
namespace Bak
open Go.BakM Byt

/-- append of one, as a step of a region that draws its order -/
theorem step_one_append {ops : Array Oper} {o : Oper} {a : Go.Act} {K : Go.Act → World → Prop} {Q : Exit → Go.Act → World → Prop} {E : Prop} {t e : TypeId} {z : Value} {bytes : Nat} {B : Nat} {w0 w : World} {Ps : List Asn} {v : Value} (O : One Try.prog t e z bytes) (hgd : o.guard = none) (s x : Operand)
    (ho : o.op = .call { callee := .builtin .append, args := #[s, x], argTypes := #[t, t] }) (H : St B w0 w Ps) (i : Nat) {n : Nat} {xs : List Value} (hi : Ps[i]? = some (ARow e 1 v n xs)) (hs : a.eval s = v)
    (bo : Addr) (y : Value) (hx : a.eval x = .slice (some bo) 1 1) (hbo : bo.spot = none) (hc : w.cell? bo = some y) (h1 : y.oneCell' = true) (b1 : n + 1 ≤ 100000000) (b2 : bytes ≤ 1000)
    (h : ∀ ao' cap' w', St B w0 w' (Ps.set i (ARow e 1 (.slice ao' (n + 1) cap') (n + 1) (xs ++ [y]))) → K (a.put o.dst (.slice ao' (n + 1) cap')) w') : if Region.wanted o (yielded ops a.tmps) = true then Oper.wp Try.prog o a w K Q else E := by
  obtain ⟨i0, hi0, hz0, hz1, hz2⟩ := info_parts' O.info
  obtain ⟨S, hS, _, put⟩ := H.at i hi
  refine step_append_row hgd s x t ho e i0 z 1 bytes O.slice hi0 hz0 hz1 hz2 O.cell (by decide) v n xs hs hS (some bo) 1 1 [y] hx (by intro h; cases h) rfl (fun a ha j u hu => ?_) (fun u hu => by simp at hu; subst hu; exact h1) (by unfold maxLen; omega) ?_ ?_
  · cases ha
    match j, hu with
    | 0, hu =>
      simp only [List.getElem?_cons_zero, Option.some.injEq] at hu
      subst hu
      obtain ⟨b, o, sp⟩ := bo
      simp only at hbo
      subst hbo
      exact hc
  · exact Nat.le_trans (Nat.mul_le_mul b1 b2) (by decide)
  · intro v' w' T' hrow hst
    obtain ⟨ao', cap', rfl, _⟩ := hrow.form
    exact h ao' cap' w' (put T' w' (ARow e 1 (.slice ao' (n + 1) cap') (n + 1) (xs ++ [y])) hrow hst)
theorem strB_cellB (w : World) (b : Bs) (t : TypeId) : (w.alloc (.cells #[strV b] t)).cell? ⟨w.heap.size, 0, none⟩ = some (strV b) := by simp

set_option maxHeartbeats 1600000 in
theorem newR_any {B : Nat} {w0 w : World} {Ps : List Asn} (H : Own.St B w0 w Ps) (num : Int) (h1 : i64B num) :
    Calls Try.prog 10 #[.int .i64 num] w fun e w' => if mayBe num = true then ∃ p vS, e = .returned (.tuple #[ptr p, errV 0]) ∧ Own.St B w0 w' (ARef p vS (fresh num.toNat) :: Ps) else e = .returned (.tuple #[.pointer none, errV 1]) ∧ Own.St B w0 w' Ps := by
  obtain ⟨a1, a2⟩ := h1
  by_cases hm : mayBe num = true
  · have hin : 0 ≤ num ∧ num ≤ 4096 := by simpa [mayBe] using hm
    simp only [hm, if_true]
    obtain ⟨g1, g2⟩ := hin
    obtain ⟨n, rfl⟩ := Int.eq_ofNat_of_zero_le g1
    show Calls _ _ _ _ (fun e w' => ∃ p vS, e = .returned (.tuple #[ptr p, errV 0]) ∧ Own.St B w0 w' (ARef p vS (fresh n) :: Ps))
    obtain ⟨w2, p, hp, hw2⟩ : ∃ w2 p, p = w.heap.size ∧ w2 = w.alloc (.cells #[.slice none 0 0, .slice none 0 0, .bool false, .int .i64 (-1), .int .i64 0] 46) := ⟨_, _, rfl, rfl⟩
    have H2 : Hid (Own.St B w0 w2 (AVals p 46 [.slice none 0 0, .slice none 0 0, .bool false, .int .i64 (-1), .int .i64 0] :: RowS (.slice none 0 0) (List.replicate 0 BakM.blank) :: RowP (.slice none 0 0) [] :: Ps)) := by
      show Own.St _ _ _ _
      have h := (H.boxV 46 [.slice none 0 0, .slice none 0 0, .bool false, .int .i64 (-1), .int .i64 0])
      rw [show w.alloc _ = w2 from hw2.symm, ← hp] at h
      have h2 : Own.St B w0 w2 (RowP (.slice none 0 0) [] :: AVals p 46 [.slice none 0 0, .slice none 0 0, .bool false, .int .i64 (-1), .int .i64 0] :: Ps) := h.rowFresh
      have h3 : Own.St B w0 w2 (RowS (.slice none 0 0) (List.replicate 0 BakM.blank) :: AVals p 46 [.slice none 0 0, .slice none 0 0, .bool false, .int .i64 (-1), .int .i64 0] :: RowP (.slice none 0 0) [] :: Ps) := h2.swap2.rowFresh
      exact h3.swap2
    clear H hm
    go_enter Try.func10, Try.ntmps10
    go_wp2
    rw [← hw2, ← hp]
    clear hw2 hp
    go_loopw [5] (fun v5 wr => ∃ (i : Nat) (aS : Option Addr) (cS : Nat), i ≤ n ∧ v5 = .int .i64 (i : Int) ∧ Own.St B w0 wr (AVals p 46 [.slice aS i cS, .slice none 0 0, .bool false, .int .i64 (-1), .int .i64 0] :: RowS (.slice aS i cS) (List.replicate i BakM.blank) :: RowP (.slice none 0 0) [] :: Ps)) (fun v5 _ => n - (intOf v5).toNat)
    case atStart => exact ⟨0, none, 0, Nat.zero_le _, rfl, H2.out⟩
    case round =>
      obtain ⟨i, aS, cS, hin, rfl, hG⟩ := hrel
      have G := Lib.hid hG
      clear hG H2
      by_cases hi : i < n
      · have c0 := (G.out.cellV 0 rfl 0 rfl).1
        obtain ⟨bl, hbl⟩ : ∃ bl, bl = BakM.blank := ⟨_, rfl⟩
        have HBL := Lib.hid hbl
        obtain ⟨w5, g, hmk, H5⟩ : ∃ w5 g, (Instr.makeSlice 38 (.int .i64 256) (.int .i64 256)).run Try.prog wr.drew = .ok (.slice (some ⟨g, 0, none⟩) 256 256) w5 ∧ Own.St B w0 w5 (AB (some ⟨g, 0, none⟩) 256 256 bl :: AVals p 46 [.slice aS i cS, .slice none 0 0, .bool false, .int .i64 (-1), .int .i64 0] :: RowS (.slice aS i cS) (List.replicate i BakM.blank) :: RowP (.slice none 0 0) [] :: Ps) := by
          obtain ⟨w5, h1, h2⟩ := ab_make G.out.drew .i64 .i64 256 (by omega)
          rw [hbl]
          exact ⟨w5, _, h1, h2⟩
        have hcv : (convert 38 9 (.slice (some ⟨g, 0, none⟩) 256 256)).run Try.prog w5 = .ok (.string (strB bl)) w5 := ab_str H5 0 rfl
        have h6 := (H5.drop 1).alloc (.cells #[strV bl] 9)
        have c5 := (H5.cellV 1 rfl 0 rfl).1
        have c6 := (h6.cellV 0 rfl 0 rfl).1
        have H6 := Lib.hid h6
        have SC := Lib.hid (strB_cellB w5 bl 9)
        have B1 : Hid ((List.replicate i BakM.blank).length + 1 ≤ 100000000) := by show _ ≤ _; rw [List.length_replicate]; omega
        clear hbl H5 h6
        go_wp2
        go_region_law (refine step_one_append oneStr rfl (.tmp 23) (.tmp 26) rfl H6.out 1 rfl (by simp [Act.eval, Act.put]) ⟨w5.heap.size, 0, none⟩ (strV bl) (by simp [Act.eval, Act.put]) rfl SC.out rfl B1.out (by decide) ?_; intro a7 c7 w7 h7; simp only [List.set_cons_zero, List.set_cons_succ, List.length_replicate] at h7 ⊢; have q0 := (h7.cellV 0 rfl 0 rfl).1; have f0 := (h7.cellV 0 rfl 0 rfl).2; have H7 := Lib.hid h7; clear h7)
        all_goals
          have H8 := Lib.hid (H7.out.storeV 0 rfl 0 (.slice a7 (i + 1) c7))
          clear q0 f0 c0 c5 c6 hmk hcv H7 H6
          go_wp2
          go_roundw
          case rel =>
            refine ⟨i + 1, a7, c7, by omega, by go_num, ?_⟩
            have e : RowS (.slice a7 (i + 1) c7) (List.replicate (i + 1) BakM.blank) = ARow 9 1 (.slice a7 (i + 1) c7) (i + 1) ((List.replicate i BakM.blank).map strV ++ [strV bl]) := by
              show ARow _ _ _ _ _ = _; rw [HBL.out, List.length_replicate, List.replicate_succ', List.map_append]; rfl
            rw [e]
            exact H8.out
          case measure => simp [intOf]; omega
      · have hin2 : i = n := by omega
        subst hin2
        have H9 := Lib.hid (ref_close (s := fresh i) G.out)
        clear G
        go_wp2
        go_ret2
        exact ⟨p, _, rfl, H9.out⟩
  · have H0 := Lib.hid H
    have hm' : mayBe num = false := by simpa using hm
    simp only [hm', Bool.false_eq_true, if_false]
    have hn : ¬ (0 ≤ num ∧ num ≤ 4096) := by simpa [mayBe] using hm
    clear hm hm' H
    by_cases g1 : num < 0
    · go_enter Try.func10, Try.ntmps10
      go_wp2
      go_ret2
      exact ⟨rfl, H0.out⟩
    · have g2 : 4096 < num := by omega
      go_enter Try.func10, Try.ntmps10
      go_wp2
      go_ret2
      exact ⟨rfl, H0.out⟩
end Bak
end Go.Proofs.Ytkddeccgoamopaa
