/- Layer 7: the document's flash: New. -/
import Derived.Test.YtepllhfofhehaaaFlaRg
namespace Go.Proofs.Ytepllhfofhehaaa
open Go.RowKit Go.Own
namespace Fla
open Go.FlaM Byt

theorem strB_cell (w : World) (b : Bs) (t : TypeId) : (w.alloc (.cells #[strV b] t)).cell? ⟨w.heap.size, 0, none⟩ = some (strV b) := by simp
abbrev newParts (p : Nat) (vS vW : Value) (segs pages : Nat) (rows : List (List Bs)) (Ps : List Asn) : List Asn :=
  GridS vS rows :: AVals p 72 [vS, .slice none 0 0, vW, .bool false, .int .i64 (-1), nuV 0, nuV pages] :: RowL (.slice none 0 0) [] :: RowW vW (List.replicate segs 0) :: Ps
set_option maxHeartbeats 4000000 in
theorem newR_any {B : Nat} {w0 w : World} {Ps : List Asn} (H : Own.St B w0 w Ps) (segs pages : Int) (h1 : i64B segs) (h2 : i64B pages) :
    Calls Try.prog 13 #[.int .i64 segs, .int .i64 pages] w fun e w' => if mayBe segs pages = true then ∃ p, e = .returned (.tuple #[ptr p, errV 0]) ∧ Own.St B w0 w' (ARef p (fresh segs.toNat pages.toNat) :: Ps) else e = .returned (.tuple #[.pointer none, errV 1]) ∧ Own.St B w0 w' Ps := by
  have HH := Lib.hid H
  obtain ⟨a1, a2⟩ := h1
  obtain ⟨a3, a4⟩ := h2
  by_cases hm : mayBe segs pages = true
  · have hin : 0 ≤ segs ∧ segs ≤ 256 ∧ 1 ≤ pages ∧ pages ≤ 64 := by simpa [mayBe] using hm
    simp only [hm, if_true]
    obtain ⟨g1, g2, g3, g4⟩ := hin
    obtain ⟨n, rfl⟩ := Int.eq_ofNat_of_zero_le g1
    obtain ⟨m, rfl⟩ := Int.eq_ofNat_of_zero_le (show 0 ≤ pages by omega)
    show Calls _ _ _ _ (fun e w' => ∃ p, e = .returned (.tuple #[ptr p, errV 0]) ∧ Own.St B w0 w' (ARef p (fresh n m) :: Ps))
    obtain ⟨w1, gW, hmk, hst⟩ := H.oneMake oneInt .i64 .i64 n (by omega) (by decide) rfl
    obtain ⟨w2, p, hp, hw2⟩ : ∃ w2 p, p = w1.heap.size ∧ w2 = w1.alloc (.cells #[.slice none 0 0, .slice none 0 0, .slice (some ⟨gW, 0, none⟩) n n, .bool false, .int .i64 (-1), .int .i64 0, .int .i64 (m : Int)] 72) := ⟨_, _, rfl, rfl⟩
    have H2 : Hid (Own.St B w0 w2 (newParts p (.slice none 0 0) (.slice (some ⟨gW, 0, none⟩) n n) n m [] Ps)) := by
      show Own.St _ _ _ _
      have h := (hst.boxV 72 [.slice none 0 0, .slice none 0 0, .slice (some ⟨gW, 0, none⟩) n n, .bool false, .int .i64 (-1), .int .i64 0, .int .i64 (m : Int)])
      rw [show w1.alloc _ = w2 from hw2.symm, ← hp] at h
      have h' := ((h.rowFresh (e := 93) (size := 3)).swap2).gridNil (t := 73) (e := 9) (enc := strV)
      have e1 : RowW (.slice (some ⟨gW, 0, none⟩) n n) (List.replicate n 0) = ARow 3 1 (.slice (some ⟨gW, 0, none⟩) n n) n (List.replicate n (.int .i64 0)) := by
        show ARow _ _ _ _ _ = _; simp only [List.length_replicate, List.map_replicate]; rfl
      show Own.St B w0 w2 (_ :: _ :: _ :: RowW (.slice (some ⟨gW, 0, none⟩) n n) (List.replicate n 0) :: Ps)
      rw [e1]
      exact h'
    clear hst H hm HH
    go_enter Try.func13, Try.ntmps13
    go_wp2
    rw [← hw2, ← hp]
    clear hw2 hp hmk
    go_loopw [7] (fun v7 wr => ∃ (i : Nat) (aS : Option Addr) (cS : Nat), i ≤ n ∧ v7 = .int .i64 (i : Int) ∧ Own.St B w0 wr (newParts p (.slice aS i cS) (.slice (some ⟨gW, 0, none⟩) n n) n m (List.replicate i (List.replicate m FlaM.blank)) Ps)) (fun v7 _ => n - (intOf v7).toNat)
    case atStart => exact ⟨0, none, 0, Nat.zero_le _, rfl, H2.out⟩
    case round =>
      obtain ⟨i, aS, cS, hin, rfl, hG⟩ := hrel
      have G := Lib.hid hG
      clear hG H2
      by_cases hi : i < n
      · go_wp2
        go_loopw [8, 9] (fun v8 v9 wr => ∃ (k : Nat) (al : Option Addr) (cl : Nat), k ≤ m ∧ v9 = .int .i64 (k : Int) ∧ v8 = .slice al k cl ∧ Own.St B w0 wr (ARow 9 1 (.slice al k cl) k ((List.replicate k FlaM.blank).map strV) :: newParts p (.slice aS i cS) (.slice (some ⟨gW, 0, none⟩) n n) n m (List.replicate i (List.replicate m FlaM.blank)) Ps)) (fun _ v9 _ => m - (intOf v9).toNat)
        case atStart => exact ⟨0, none, 0, Nat.zero_le _, rfl, rfl, G.out.rowFresh⟩
        case round =>
          obtain ⟨k, al, cl, hkm, rfl, rfl, hK⟩ := hrel
          have HK := Lib.hid hK
          clear hK G
          by_cases hk : k < m
          · go_wp2_with (fail)
            refine (erased_any wr).mono ?_
            rintro e w5 ⟨rfl, h5⟩
            have H5 := Lib.hid (HK.out.later h5)
            have H6 := Lib.hid (H5.out.alloc (.cells #[strV FlaM.blank] 9))
            have SC := Lib.hid (strB_cell w5 FlaM.blank 9)
            have B1 : Hid (k + 1 ≤ 100000000) := by show _ ≤ _; omega
            clear h5 HK H5
            go_wp2_with (at_builtin; refine wpList_one_append oneStr rfl (.tmp 39) (.tmp 41) rfl H6.out 0 rfl rfl ⟨w5.heap.size, 0, none⟩ (strV FlaM.blank) rfl rfl SC.out rfl B1.out (by decide) ?_; intro a7 c7 w7 h7; simp only [List.set_cons_zero] at h7; have H7 := Lib.hid h7; clear h7)
            go_roundw
            case rel =>
              refine ⟨k + 1, a7, c7, by omega, by go_num, rfl, ?_⟩
              have e : (List.replicate (k + 1) FlaM.blank).map strV = (List.replicate k FlaM.blank).map strV ++ [strV FlaM.blank] := by rw [List.replicate_succ', List.map_append]; rfl
              rw [e]
              exact H7.out
            case measure => simp [intOf]; omega
          · have hkm2 : k = m := by omega
            subst hkm2
            have HK2 : Own.St B w0 wr (GridS (.slice aS i cS) (List.replicate i (List.replicate k FlaM.blank)) :: ARow 9 1 (.slice al (List.replicate k FlaM.blank).length cl) (List.replicate k FlaM.blank).length ((List.replicate k FlaM.blank).map strV) :: AVals p 72 [.slice aS i cS, .slice none 0 0, .slice (some ⟨gW, 0, none⟩) n n, .bool false, .int .i64 (-1), nuV 0, nuV k] :: RowL (.slice none 0 0) [] :: RowW (.slice (some ⟨gW, 0, none⟩) n n) (List.replicate n 0) :: Ps) := by
              rw [List.length_replicate]; exact HK.out.swap2
            have c0 := (HK2.cellV 2 rfl 0 rfl).1
            have H6 := Lib.hid (HK2.alloc (.cells #[.slice al k cl] 73))
            have SC : Hid ((wr.alloc (.cells #[.slice al k cl] 73)).cell? ⟨wr.heap.size, 0, none⟩ = some (.slice al (List.replicate k FlaM.blank).length cl)) := by show _ = _; rw [List.length_replicate]; simp
            have B1 : Hid ((List.replicate i (List.replicate k FlaM.blank)).length + 1 ≤ 100000000) := by show _ ≤ _; rw [List.length_replicate]; omega
            clear HK HK2
            go_wp2_with (at_builtin; refine wpList_grid_append oneRow rfl (.tmp 47) (.tmp 49) rfl H6.out rfl ⟨wr.heap.size, 0, none⟩ rfl rfl SC.out B1.out (by decide) ?_; intro a7 c7 w7 h7; simp only [List.length_replicate] at h7 ⊢; have q0 := (h7.cellV 1 rfl 0 rfl).1; have f0 := (h7.cellV 1 rfl 0 rfl).2; have H7 := Lib.hid h7; clear h7)
            have H8 := Lib.hid (H7.out.storeV 1 rfl 0 (.slice a7 (i + 1) c7))
            clear q0 f0 c0 H7 H6
            go_roundw
            case rel =>
              refine ⟨i + 1, a7, c7, by omega, by go_num, ?_⟩
              rw [List.replicate_succ']
              exact H8.out
            case measure => simp [intOf]; omega
      · have hin2 : i = n := by omega
        subst hin2
        have H9 : Hid (Own.St B w0 wr (ARef p (fresh i m) :: Ps)) := by
          show Own.St _ _ _ _
          have h := G.out
          exact ref_close (s := fresh i m) (vS := .slice aS i cS) (vL := .slice none 0 0) (vW := .slice (some ⟨gW, 0, none⟩) i i) h
        clear G
        go_wp2
        go_ret2
        exact ⟨p, rfl, H9.out⟩
  · have H0 := Lib.hid H
    have hm' : mayBe segs pages = false := by simpa using hm
    simp only [hm', Bool.false_eq_true, if_false]
    have hn : ¬ (0 ≤ segs ∧ segs ≤ 256 ∧ 1 ≤ pages ∧ pages ≤ 64) := by simpa [mayBe] using hm
    clear hm hm' H HH
    by_cases g1 : segs < 0
    · go_enter Try.func13, Try.ntmps13
      go_wp2
      go_ret2
      exact ⟨rfl, H0.out⟩
    · by_cases g2 : 256 < segs
      · go_enter Try.func13, Try.ntmps13
        go_wp2
        go_ret2
        exact ⟨rfl, H0.out⟩
      · by_cases g3 : pages < 1
        · go_enter Try.func13, Try.ntmps13
          go_wp2
          go_ret2
          exact ⟨rfl, H0.out⟩
        · have g4 : 64 < pages := by omega
          go_enter Try.func13, Try.ntmps13
          go_wp2
          go_ret2
          exact ⟨rfl, H0.out⟩
end Fla
end Go.Proofs.Ytepllhfofhehaaa
