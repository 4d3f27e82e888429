/- Merged: FlaRh LawLogM KeyI RecJ LogI LgaM PagR PagT PagG PagJ PagQ PgaA PgaB PgaC PgaD -/
import Derived.BigQuiet
import Derived.Deep.QuietTactic
import Derived.BigRegion
import Derived.Lib.Hide
import Derived.Laws.Rows
import Derived.Great.Walk
import Derived.Laws.BitsAllLaws
import Derived.Laws.Cover3
import Derived.Test.YtmdphcebmgcdbaaQ1
import Derived.Test.YtmdphcebmgcdbaaQ2
import Derived.Test.YtmdphcebmgcdbaaQ3
import Derived.Test.YtmdphcebmgcdbaaQ4
import Derived.Test.YtmdphcebmgcdbaaQ5
import Derived.Test.YtmdphcebmgcdbaaQ6
set_option linter.unusedVariables false
section
namespace Go.Proofs.Ytmdphcebmgcdbaa
open Go.RowKit Go.Own
namespace Fla
open Go.FlaM Byt

theorem strB_cell (w : World) (b : Bs) (t : TypeId) : (w.alloc (.cells #[strV b] t)).cell? ⟨w.heap.size, 0, none⟩ = some (strV b) := by simp
abbrev newParts (p : Nat) (vS vW : Value) (segs pages : Nat) (rows : List (List Bs)) (Ps : List Asn) : List Asn :=
  GridS vS rows :: AVals p 103 [vS, .slice none 0 0, vW, .bool false, .int .i64 (-1), nuV 0, nuV pages] :: RowL (.slice none 0 0) [] :: RowW vW (List.replicate segs 0) :: Ps
set_option maxRecDepth 10000 in
set_option maxHeartbeats 4000000 in
theorem newR_any {B : Nat} {w0 w : World} {Ps : List Asn} (H : Own.St B w0 w Ps) (segs pages : Int) (h1 : i64B segs) (h2 : i64B pages) :
    Calls Try.prog 11 #[.int .i64 segs, .int .i64 pages] w fun e w' => if mayBe segs pages = true then ∃ p, e = .returned (.tuple #[ptr p, errV 0]) ∧ Own.St B w0 w' (ARef p (fresh segs.toNat pages.toNat) :: Ps) else e = .returned (.tuple #[.pointer none, errV 1]) ∧ Own.St B w0 w' Ps := by
  have HH := Lib.hid H
  obtain ⟨a1, a2⟩ := h1
  obtain ⟨a3, a4⟩ := h2
  by_cases hm : mayBe segs pages = true
  · have hin : 0 ≤ segs ∧ segs ≤ 256 ∧ 1 ≤ pages ∧ pages ≤ 64 := by simpa [mayBe] using hm
    simp only [hm, if_true]
    obtain ⟨g1, g2, g3, g4⟩ := hin
    obtain ⟨n, rfl⟩ := Int.eq_ofNat_of_zero_le g1
    obtain ⟨m, rfl⟩ := Int.eq_ofNat_of_zero_le (show 0 ≤ pages by omega)
    show Calls _ _ _ _ (fun e w' => ∃ p, e = .returned (.tuple #[ptr p, errV 0]) ∧ Own.St B w0 w' (ARef p (fresh n m) :: Ps))
    obtain ⟨w1, gW, hmk, hst⟩ := H.oneMake oneInt .i64 .i64 n (by omega) (by decide) rfl
    obtain ⟨w2, p, hp, hw2⟩ : ∃ w2 p, p = w1.heap.size ∧ w2 = w1.alloc (.cells #[.slice none 0 0, .slice none 0 0, .slice (some ⟨gW, 0, none⟩) n n, .bool false, .int .i64 (-1), .int .i64 0, .int .i64 (m : Int)] 103) := ⟨_, _, rfl, rfl⟩
    have H2 : Hid (Own.St B w0 w2 (newParts p (.slice none 0 0) (.slice (some ⟨gW, 0, none⟩) n n) n m [] Ps)) := by
      show Own.St _ _ _ _
      have h := (hst.boxV 103 [.slice none 0 0, .slice none 0 0, .slice (some ⟨gW, 0, none⟩) n n, .bool false, .int .i64 (-1), .int .i64 0, .int .i64 (m : Int)])
      rw [show w1.alloc _ = w2 from hw2.symm, ← hp] at h
      have h' := ((h.rowFresh (e := 194) (size := 3)).swap2).gridNil (t := 104) (e := 9) (enc := strV)
      have e1 : RowW (.slice (some ⟨gW, 0, none⟩) n n) (List.replicate n 0) = ARow 3 1 (.slice (some ⟨gW, 0, none⟩) n n) n (List.replicate n (.int .i64 0)) := by
        show ARow _ _ _ _ _ = _; simp only [List.length_replicate, List.map_replicate]; rfl
      show Own.St B w0 w2 (_ :: _ :: _ :: RowW (.slice (some ⟨gW, 0, none⟩) n n) (List.replicate n 0) :: Ps)
      rw [e1]
      exact h'
    clear hst H hm HH
    go_enter Try.func11, Try.ntmps11
    go_wp2
    rw [← hw2, ← hp]
    clear hw2 hp hmk
    go_loopw [7] (fun v7 wr => ∃ (i : Nat) (aS : Option Addr) (cS : Nat), i ≤ n ∧ v7 = .int .i64 (i : Int) ∧ Own.St B w0 wr (newParts p (.slice aS i cS) (.slice (some ⟨gW, 0, none⟩) n n) n m (List.replicate i (List.replicate m FlaM.blank)) Ps)) (fun v7 _ => n - (intOf v7).toNat)
    case atStart => exact ⟨0, none, 0, Nat.zero_le _, rfl, H2.out⟩
    case round =>
      obtain ⟨i, aS, cS, hin, rfl, hG⟩ := hrel
      have G := Lib.hid hG
      clear hG H2
      by_cases hi : i < n
      · go_wp2
        go_loopw [8, 9] (fun v8 v9 wr => ∃ (k : Nat) (al : Option Addr) (cl : Nat), k ≤ m ∧ v9 = .int .i64 (k : Int) ∧ v8 = .slice al k cl ∧ Own.St B w0 wr (ARow 9 1 (.slice al k cl) k ((List.replicate k FlaM.blank).map strV) :: newParts p (.slice aS i cS) (.slice (some ⟨gW, 0, none⟩) n n) n m (List.replicate i (List.replicate m FlaM.blank)) Ps)) (fun _ v9 _ => m - (intOf v9).toNat)
        case atStart => exact ⟨0, none, 0, Nat.zero_le _, rfl, rfl, G.out.rowFresh⟩
        case round =>
          obtain ⟨k, al, cl, hkm, rfl, rfl, hK⟩ := hrel
          have HK := Lib.hid hK
          clear hK G
          by_cases hk : k < m
          · go_wp2_with (fail)
            refine (erased_any wr).mono ?_
            rintro e w5 ⟨rfl, h5⟩
            have H5 := Lib.hid (HK.out.later h5)
            have H6 := Lib.hid (H5.out.alloc (.cells #[strV FlaM.blank] 9))
            have SC := Lib.hid (strB_cell w5 FlaM.blank 9)
            have B1 : Hid (k + 1 ≤ 100000000) := by show _ ≤ _; omega
            clear h5 HK H5
            go_wp2_with (at_builtin; refine wpList_one_append oneStr rfl (.tmp 39) (.tmp 41) rfl H6.out 0 rfl rfl ⟨w5.heap.size, 0, none⟩ (strV FlaM.blank) rfl rfl SC.out rfl B1.out (by decide) ?_; intro a7 c7 w7 h7; simp only [List.set_cons_zero] at h7; have H7 := Lib.hid h7; clear h7)
            go_roundw
            case rel =>
              refine ⟨k + 1, a7, c7, by omega, by go_num, rfl, ?_⟩
              have e : (List.replicate (k + 1) FlaM.blank).map strV = (List.replicate k FlaM.blank).map strV ++ [strV FlaM.blank] := by rw [List.replicate_succ', List.map_append]; rfl
              rw [e]
              exact H7.out
            case measure => simp [intOf]; omega
          · have hkm2 : k = m := by omega
            subst hkm2
            have HK2 : Own.St B w0 wr (GridS (.slice aS i cS) (List.replicate i (List.replicate k FlaM.blank)) :: ARow 9 1 (.slice al (List.replicate k FlaM.blank).length cl) (List.replicate k FlaM.blank).length ((List.replicate k FlaM.blank).map strV) :: AVals p 103 [.slice aS i cS, .slice none 0 0, .slice (some ⟨gW, 0, none⟩) n n, .bool false, .int .i64 (-1), nuV 0, nuV k] :: RowL (.slice none 0 0) [] :: RowW (.slice (some ⟨gW, 0, none⟩) n n) (List.replicate n 0) :: Ps) := by
              rw [List.length_replicate]; exact HK.out.swap2
            have c0 := (HK2.cellV 2 rfl 0 rfl).1
            have H6 := Lib.hid (HK2.alloc (.cells #[.slice al k cl] 104))
            have SC : Hid ((wr.alloc (.cells #[.slice al k cl] 104)).cell? ⟨wr.heap.size, 0, none⟩ = some (.slice al (List.replicate k FlaM.blank).length cl)) := by show _ = _; rw [List.length_replicate]; simp
            have B1 : Hid ((List.replicate i (List.replicate k FlaM.blank)).length + 1 ≤ 100000000) := by show _ ≤ _; rw [List.length_replicate]; omega
            clear HK HK2
            go_wp2_with (at_builtin; refine wpList_grid_append oneRow rfl (.tmp 47) (.tmp 49) rfl H6.out rfl ⟨wr.heap.size, 0, none⟩ rfl rfl SC.out B1.out (by decide) ?_; intro a7 c7 w7 h7; simp only [List.length_replicate] at h7 ⊢; have q0 := (h7.cellV 1 rfl 0 rfl).1; have f0 := (h7.cellV 1 rfl 0 rfl).2; have H7 := Lib.hid h7; clear h7)
            have H8 := Lib.hid (H7.out.storeV 1 rfl 0 (.slice a7 (i + 1) c7))
            clear q0 f0 c0 H7 H6
            go_roundw
            case rel =>
              refine ⟨i + 1, a7, c7, by omega, by go_num, ?_⟩
              rw [List.replicate_succ']
              exact H8.out
            case measure => simp [intOf]; omega
      · have hin2 : i = n := by omega
        subst hin2
        have H9 : Hid (Own.St B w0 wr (ARef p (fresh i m) :: Ps)) := by
          show Own.St _ _ _ _
          have h := G.out
          exact ref_close (s := fresh i m) (vS := .slice aS i cS) (vL := .slice none 0 0) (vW := .slice (some ⟨gW, 0, none⟩) i i) h
        clear G
        go_wp2
        go_ret2
        exact ⟨p, rfl, H9.out⟩
  · have H0 := Lib.hid H
    have hm' : mayBe segs pages = false := by simpa using hm
    simp only [hm', Bool.false_eq_true, if_false]
    have hn : ¬ (0 ≤ segs ∧ segs ≤ 256 ∧ 1 ≤ pages ∧ pages ≤ 64) := by simpa [mayBe] using hm
    clear hm hm' H HH
    by_cases g1 : segs < 0
    · go_enter Try.func11, Try.ntmps11
      go_wp2
      go_ret2
      exact ⟨rfl, H0.out⟩
    · by_cases g2 : 256 < segs
      · go_enter Try.func11, Try.ntmps11
        go_wp2
        go_ret2
        exact ⟨rfl, H0.out⟩
      · by_cases g3 : pages < 1
        · go_enter Try.func11, Try.ntmps11
          go_wp2
          go_ret2
          exact ⟨rfl, H0.out⟩
        · have g4 : 64 < pages := by omega
          go_enter Try.func11, Try.ntmps11
          go_wp2
          go_ret2
          exact ⟨rfl, H0.out⟩
end Fla
end Go.Proofs.Ytmdphcebmgcdbaa

end
section
namespace Go.Proofs.Ytmdphcebmgcdbaa
open Go.RowKit Go.Own
namespace Lg
open Go.LogM Byt
set_option maxRecDepth 10000 in
set_option maxHeartbeats 4000000 in
theorem refNew_any {B : Nat} {w0 w : World} {Ps : List Asn} {p q : Nat} {v : Value} {s : FlaM.FS} {t : TabM.T} (H : Own.St B w0 w (Fla.ARef p s :: Tab.ARefT q v t :: Ps)) (fr : Int) (hf : i64L fr) (hs : s.safe.length ≤ 1000) (ht : t.rows.length ≤ 1000) (hp : s.pp ≤ 1000) :
    Calls Try.prog 13 #[ptr p, .int .i64 fr, ptr q] w fun e w' => ∃ x, e = .returned (.tuple #[x, errL (if mayL s t fr = true then 0 else 1)]) ∧ Below w.heap.size w w' := by
  obtain ⟨vS, vL, vW, h1⟩ := Fla.ref_open H
  obtain ⟨rs, hrl, hg⟩ := h1.gridOpen
  obtain ⟨aS, cS, rfl⟩ := hg.rowForm 0 rfl
  have c0 := (h1.cellV 1 rfl 0 rfl).1
  have c6 := (h1.cellV 1 rfl 6 rfl).1
  obtain ⟨sl, hsl⟩ : ∃ n, n = s.safe.length := ⟨_, rfl⟩
  obtain ⟨pp, hpp⟩ : ∃ n, n = s.pp := ⟨_, rfl⟩
  obtain ⟨tl, htl⟩ : ∃ n, n = t.rows.length := ⟨_, rfl⟩
  rw [← hsl] at c0 hs
  rw [← hpp] at c6 hp
  have h2 : Own.St B w0 w (Tab.ARefT q v t :: Fla.ARef p s :: Ps) := H.swap2
  have h3 := Tab.ref_open h2
  obtain ⟨aL, cL, hv⟩ := h3.rowForm 1 rfl
  rw [hv] at h3
  have d0 := (h3.cellV 0 rfl 0 rfl).1
  rw [← htl] at d0 ht
  have hm : mayL s t fr = (decide (0 ≤ fr) && decide (fr + (tl : Int) ≤ (sl : Int)) && decide (2 ≤ pp)) := by unfold mayL; rw [hsl, htl, hpp]
  rw [hm]
  have HB := Lib.hid (Below.refl w.heap.size w)
  clear H h1 hg h2 h3 hrl hsl hpp htl hm hv
  by_cases t1 : fr < 0
  · have e1 : ¬ (0 ≤ fr) := by omega
    have k1 : decide (fr < 0) = true := decide_eq_true t1
    have HE : Hid ((if (decide (0 ≤ fr) && decide (fr + (tl : Int) ≤ (sl : Int)) && decide (2 ≤ pp)) = true then 0 else 1) = 1) := by show _ = _; rw [if_neg (by simp; omega)]
    rw [HE.out]
    clear HE
    go_enter Try.func13, Try.ntmps13
    go_wp2
    go_quiet (fail)
    go_wp2
    go_ret2
    exact ⟨_, rfl, ((Own.St.start w).drewN nq).below⟩
  have k1 : decide (fr < 0) = false := decide_eq_false t1
  by_cases t2 : (sl : Int) < fr
  · have k2 : decide ((sl : Int) < fr) = true := decide_eq_true t2
    have HE : Hid ((if (decide (0 ≤ fr) && decide (fr + (tl : Int) ≤ (sl : Int)) && decide (2 ≤ pp)) = true then 0 else 1) = 1) := by show _ = _; rw [if_neg (by simp; omega)]
    rw [HE.out]
    clear HE
    go_enter Try.func13, Try.ntmps13
    go_wp2
    go_quiet (fail)
    go_wp2
    go_ret2
    exact ⟨_, rfl, ((Own.St.start w).drewN nq).below⟩
  have k2 : decide ((sl : Int) < fr) = false := decide_eq_false t2
  by_cases t3 : (sl : Int) - fr < (tl : Int)
  · have k3 : decide ((sl : Int) - fr < (tl : Int)) = true := decide_eq_true t3
    have HE : Hid ((if (decide (0 ≤ fr) && decide (fr + (tl : Int) ≤ (sl : Int)) && decide (2 ≤ pp)) = true then 0 else 1) = 1) := by show _ = _; rw [if_neg (by simp; omega)]
    rw [HE.out]
    clear HE
    go_enter Try.func13, Try.ntmps13
    go_wp2
    go_quiet (fail)
    go_wp2
    go_ret2
    exact ⟨_, rfl, ((Own.St.start w).drewN nq).below⟩
  have k3 : decide ((sl : Int) - fr < (tl : Int)) = false := decide_eq_false t3
  by_cases t4 : (pp : Int) < 2
  · have k4 : decide ((pp : Int) < 2) = true := decide_eq_true t4
    have HE : Hid ((if (decide (0 ≤ fr) && decide (fr + (tl : Int) ≤ (sl : Int)) && decide (2 ≤ pp)) = true then 0 else 1) = 1) := by show _ = _; rw [if_neg (by simp; omega)]
    rw [HE.out]
    clear HE
    go_enter Try.func13, Try.ntmps13
    go_wp2
    go_quiet (fail)
    go_wp2
    go_ret2
    exact ⟨_, rfl, ((Own.St.start w).drewN nq).below⟩
  have k4 : decide ((pp : Int) < 2) = false := decide_eq_false t4
  have HE : Hid ((if (decide (0 ≤ fr) && decide (fr + (tl : Int) ≤ (sl : Int)) && decide (2 ≤ pp)) = true then 0 else 1) = 0) := by show _ = _; rw [if_pos (by simp; omega)]
  rw [HE.out]
  clear HE
  go_enter Try.func13, Try.ntmps13
  go_wp2
  go_quiet (fail)
  go_wp2
  go_ret2
  exact ⟨_, rfl, (((Own.St.start w).drewN nq).alloc _).below⟩
set_option maxRecDepth 10000 in
set_option maxHeartbeats 8000000 in
theorem walk_makes {W : World} {FK : Fla.Kept W} {TK : Tab.Kept W} (K : Kept W FK TK) (s0 r0 p0 : Nat) (hs0 : s0 ≤ 255) (hr0 : r0 ≤ 255) (hp0 : p0 ≤ 255) (fr : Int) (hf : i64L fr) {w : World} (hW : Below W.heap.size W w) :
    Calls Try.prog 3 #[.int .u8 (s0 : Int), .int .u8 (r0 : Int), .int .u8 (p0 : Int), .int .i64 fr] w (RetYes w) := by
  obtain ⟨n, hn⟩ : ∃ n, n = s0 % 9 := ⟨_, rfl⟩
  obtain ⟨k, hk⟩ : ∃ n, n = r0 % 9 := ⟨_, rfl⟩
  obtain ⟨m0, hm0⟩ : ∃ n, n = p0 % 8 := ⟨_, rfl⟩
  obtain ⟨m, hm⟩ : ∃ n, n = m0 + 1 := ⟨_, rfl⟩
  have e1 : (s0 : Int) % 9 = (n : Int) := by omega
  have e2 : (r0 : Int) % 9 = (k : Int) := by omega
  have e3 : (p0 : Int) % 8 = (m0 : Int) := by omega
  have e4 : (m0 : Int) + 1 = (m : Int) := by omega
  have hn8 : n ≤ 8 := by omega
  have hk8 : k ≤ 8 := by omega
  have hm8 : 1 ≤ m ∧ m ≤ 8 := by omega
  have hm07 : m0 ≤ 7 := by omega
  have f1 : FlaM.mayBe (n : Int) (m : Int) = true := by unfold FlaM.mayBe; simp; omega
  have f2 : TabM.mayBe (k : Int) = true := by unfold TabM.mayBe; simp; omega
  have ok1 : FlaM.Ok (FlaM.fresh n m) 1 := (FlaM.ok_fresh n m (by omega) (by omega)).more (by omega)
  have ok2 : TabM.Ok (TabM.fresh k) 1 := (TabM.ok_fresh k (by omega)).more (by omega)
  obtain ⟨mb, hmb⟩ : ∃ b, b = mayL (FlaM.fresh n m) (TabM.fresh k) fr := ⟨_, rfl⟩
  obtain ⟨er, her⟩ : ∃ e : Nat, e = if mb = true then 0 else 1 := ⟨_, rfl⟩
  have CS := Lib.hid (shown_any K hW)
  have C0 : Hid (∀ wx, Below w.heap.size w wx → Calls Try.prog 8 #[.int .i64 (n : Int), .int .i64 (m : Int)] wx fun e w' => ∃ p, e = .returned (.tuple #[ptr p, errL 0]) ∧ Own.St w.heap.size w w' [FK.A p (FlaM.fresh n m)]) := fun wx hwx => by
    have H := (Own.St.start w).later hwx
    have c := FK.new (n : Int) (m : Int) (H.wide hW hW.size) H (by unfold Fla.i64B; omega) (by unfold Fla.i64B; omega)
    rw [f1] at c
    simp only [if_true] at c
    rw [show ((n : Int)).toNat = n by omega, show ((m : Int)).toNat = m by omega] at c
    exact c
  have C1 : Hid (∀ pf wx, Own.St w.heap.size w wx [FK.A pf (FlaM.fresh n m)] → Calls Try.prog 9 #[.int .i64 (k : Int)] wx fun e w' => ∃ p, e = .returned (.tuple #[ptr p, errL 0]) ∧ Own.St w.heap.size w w' [FK.A pf (FlaM.fresh n m), TK.A p (TabM.fresh k)]) := fun pf wx h => by
    have c := TK.new (k : Int) (h.wide hW hW.size) h (by unfold Tab.i64T; omega)
    rw [f2] at c
    simp only [if_true] at c
    rw [show ((k : Int)).toNat = k by omega] at c
    exact c.mono fun e w' ⟨p, h1, h2⟩ => ⟨p, h1, h2.swap2⟩
  have C2 : Hid (∀ pf pt wx, Own.St w.heap.size w wx [FK.A pf (FlaM.fresh n m), TK.A pt (TabM.fresh k)] → Calls Try.prog 10 #[ptr pf, .int .i64 fr, ptr pt] wx fun e w' => ∃ x, e = .returned (.tuple #[x, errL er]) ∧ (mb = true → ∃ p, x = ptr p) ∧ (mb = false → x = .pointer none) ∧ Below w.heap.size w w') := fun pf pt wx h => by
    have c := K.new fr (h.wide hW hW.size) h ok1 ok2 (by decide) hf
    rw [← hmb] at c
    cases mb
    · refine c.mono ?_
      rintro e w' ⟨h1, h2⟩
      exact ⟨_, by rw [her]; exact h1, fun h => (by cases h), fun _ => rfl, h2.below⟩
    · refine c.mono ?_
      rintro e w' ⟨p, h1, h2⟩
      exact ⟨_, by rw [her]; exact h1, fun _ => ⟨p, rfl⟩, fun h => (by cases h), h2.below⟩
  have C3 : Hid (∀ wx, Below w.heap.size w wx → Calls Try.prog 11 #[.int .i64 (n : Int), .int .i64 (m : Int)] wx fun e w' => ∃ p, e = .returned (.tuple #[ptr p, errL 0]) ∧ Own.St w.heap.size w w' [Fla.ARef p (FlaM.fresh n m)]) := fun wx hwx => by
    have c := Fla.newR_any ((Own.St.start w).later hwx) (n : Int) (m : Int) (by unfold Fla.i64B; omega) (by unfold Fla.i64B; omega)
    rw [f1] at c
    simp only [if_true] at c
    rw [show ((n : Int)).toNat = n by omega, show ((m : Int)).toNat = m by omega] at c
    exact c
  have C4 : Hid (∀ p wx, Own.St w.heap.size w wx [Fla.ARef p (FlaM.fresh n m)] → Calls Try.prog 12 #[.int .i64 (k : Int)] wx fun e w' => ∃ q v, e = .returned (.tuple #[ptr q, errL 0]) ∧ Own.St w.heap.size w w' [Fla.ARef p (FlaM.fresh n m), Tab.ARefT q v (TabM.fresh k)]) := fun p wx h => by
    have c := Tab.newR_any h (k : Int) (by omega)
    rw [f2] at c
    simp only [if_true] at c
    rw [show ((k : Int)).toNat = k by omega] at c
    exact c.mono fun e w' ⟨q, v, h1, h2⟩ => ⟨q, v, h1, h2.swap2⟩
  have C5 : Hid (∀ p q v wx, Own.St w.heap.size w wx [Fla.ARef p (FlaM.fresh n m), Tab.ARefT q v (TabM.fresh k)] → Calls Try.prog 13 #[ptr p, .int .i64 fr, ptr q] wx fun e w' => ∃ x, e = .returned (.tuple #[x, errL er]) ∧ Below wx.heap.size wx w') := fun p q v wx h => by
    have c := refNew_any h fr hf (by simp [FlaM.fresh]; omega) (by simp [TabM.fresh]; omega) (by simp [FlaM.fresh]; omega)
    rw [← hmb, ← her] at c
    exact c
  have C6 : Hid (∀ v w, Calls Try.prog 10 #[.pointer none, .int .i64 fr, v] w fun e w' => e = .returned (.tuple #[.pointer none, errL 2]) ∧ Below w.heap.size w w') := K.newNilF fr
  have C7 : Hid (∀ p w, Calls Try.prog 10 #[ptr p, .int .i64 fr, .pointer none] w fun e w' => e = .returned (.tuple #[.pointer none, errL 2]) ∧ Below w.heap.size w w') := K.newNilT fr
  have HER : Hid ((mb = true → er = 0) ∧ (mb = false → er = 1)) := by
    constructor <;> intro h <;> rw [her, h] <;> rfl
  clear hn hk hm0 hm f1 f2 ok1 ok2 hmb her hW
  go_enter Try.func3, Try.ntmps3
  go_wp2_with (fail)
  refine CS.out.mono ?_
  clear CS
  rintro e w1 ⟨rfl, hb1⟩
  have C0' := Lib.hid (C0.out w1 hb1)
  clear C0 hb1
  go_wp2_with (fail)
  refine C0'.out.mono ?_
  clear C0'
  rintro e w2 ⟨pf, rfl, h2⟩
  have C1' := Lib.hid (C1.out pf w2 h2)
  clear C1 h2
  go_wp2_with (fail)
  refine C1'.out.mono ?_
  clear C1'
  rintro e w3 ⟨pt, rfl, h3⟩
  have C2' := Lib.hid (C2.out pf pt w3 h3)
  clear C2 h3
  go_wp2_with (fail)
  refine C2'.out.mono ?_
  clear C2'
  rintro e w4 ⟨x, rfl, hx1, hx2, hb4⟩
  have HX1 := Lib.hid hx1
  have HX2 := Lib.hid hx2
  have C3' := Lib.hid (C3.out w4 hb4)
  clear C3 hb4 hx1 hx2
  go_wp2_with (fail)
  refine C3'.out.mono ?_
  clear C3'
  rintro e w5 ⟨p5, rfl, h5⟩
  have C4' := Lib.hid (C4.out p5 w5 h5)
  clear C4 h5
  go_wp2_with (fail)
  refine C4'.out.mono ?_
  clear C4'
  rintro e w6 ⟨q6, v6, rfl, h6⟩
  have C5' := Lib.hid (C5.out p5 q6 v6 w6 h6)
  have HB6 := Lib.hid h6.below
  clear C5 h6
  go_wp2_with (fail)
  refine C5'.out.mono ?_
  clear C5'
  rintro e w7 ⟨x7, rfl, hb7⟩
  have HB7 := Lib.hid (HB6.out.trans (hb7.mono HB6.out.size))
  clear hb7
  go_wp2_with (fail)
  refine (C6.out _ w7).mono ?_
  clear C6
  rintro e w8 ⟨rfl, hb8⟩
  have HB8 := Lib.hid (HB7.out.trans (hb8.mono HB7.out.size))
  clear hb8
  go_wp2_with (fail)
  refine (C7.out _ w8).mono ?_
  clear C7
  rintro e w9 ⟨rfl, hb9⟩
  have HB9 := Lib.hid (HB8.out.trans (hb9.mono HB8.out.size))
  clear hb9
  cases mb
  · have hx := HX2.out rfl
    have he := HER.out.2 rfl
    subst hx he
    go_wp2
    go_ret
    exact ⟨rfl, HB9.out⟩
  · obtain ⟨p4, hx⟩ := HX1.out rfl
    have he := HER.out.1 rfl
    subst hx he
    go_wp2
    go_ret
    exact ⟨rfl, HB9.out⟩
end Lg
end Go.Proofs.Ytmdphcebmgcdbaa

end
section
namespace Go.Proofs.Ytmdphcebmgcdbaa
open Go.RowKit Go.Own
namespace Rec
open Go.RecM Byt
def inKey : InT (RecM.Bs × Nat) := fun k _ _ cs => cs = keyC k.1 k.2 ∧ k.1.length = 32 ∧ k.2 < 4294967296
theorem nat_u32 {a : Int} (h : (Lit.int .u32 a).wf = true) : ∃ u : Nat, a = u ∧ u < 4294967296 := by
  have : 0 ≤ a ∧ a < 4294967296 := by
    have : 0 ≤ a ∧ a ≤ 4294967295 := by simpa [Lit.wf, IntKind.min, IntKind.max, IntKind.signed, IntKind.bits] using h
    omega
  exact ⟨a.toNat, by omega, by omega⟩
theorem nat_u64 {a : Int} (h : (Lit.int .u64 a).wf = true) : ∃ u : Nat, a = u ∧ u < 18446744073709551616 := by
  have : 0 ≤ a ∧ a < 18446744073709551616 := by
    have : 0 ≤ a ∧ a ≤ 18446744073709551615 := by simpa [Lit.wf, IntKind.min, IntKind.max, IntKind.signed, IntKind.bits] using h
    omega
  exact ⟨a.toNat, by omega, by omega⟩
theorem opens_key : Opens Try.prog 55 inKey := by
  intro H enc w fuel cs x h
  obtain ⟨hl, hf⟩ := opens_fields (P := Try.prog) Try.underlying55 h
  rw [show Try.prog.cellsOf 55 = 33 by kernel_rfl] at hl
  obtain ⟨n0, y0, h0⟩ := hf 0 _ rfl
  obtain ⟨n1, y1, h1⟩ := hf 1 _ rfl
  obtain ⟨s, hs⟩ := opens_bytesA (P := Try.prog) (n := 32) Try.underlying53 Try.underlying5 (by kernel_rfl) (by kernel_rfl) H enc w n0 _ y0 h0
  obtain ⟨a1, e1, w1⟩ := opens_int (P := Try.prog) Try.underlying50 H enc w n1 _ y1 h1
  obtain ⟨hs1, hs2⟩ := hs
  obtain ⟨u, rfl, hu⟩ := nat_u32 w1
  have k0 : Try.prog.cellsOf 53 = 32 := by kernel_rfl
  have k1 : Try.prog.cellsOf 50 = 1 := by kernel_rfl
  refine ⟨(s, u), ?_, hs2, hu⟩
  show cs = keyC s u
  have f0 : cs.take 32 = s.map byteV := by simpa [k0] using hs1
  have f1 : (cs.drop 32).take 1 = [.int .u32 (u : Int)] := by simpa [k1] using e1
  unfold keyC
  rw [← f0, ← f1, List.take_of_length_le (l := cs.drop 32) (by simp [hl]), List.take_append_drop]
end Rec
end Go.Proofs.Ytmdphcebmgcdbaa

end
section
namespace Go.Proofs.Ytmdphcebmgcdbaa
open Go.RowKit Go.Own
namespace Rec
open Go.RecM Byt
theorem split37 (cs : List Value) (h : cs.length = 37) : cs = cs.take 1 ++ ((cs.drop 1).take 1 ++ ((cs.drop 2).take 1 ++ ((cs.drop 3).take 33 ++ (cs.drop 36).take 1))) := by
  have e4 : (cs.drop 36).take 1 = cs.drop 36 := List.take_of_length_le (by simp [h])
  have e3 : (cs.drop 3).take 33 ++ cs.drop 36 = cs.drop 3 := by
    have := List.take_append_drop 33 (cs.drop 3)
    rwa [List.drop_drop] at this
  have e2 : (cs.drop 2).take 1 ++ cs.drop 3 = cs.drop 2 := by
    have := List.take_append_drop 1 (cs.drop 2)
    rwa [List.drop_drop] at this
  have e1 : (cs.drop 1).take 1 ++ cs.drop 2 = cs.drop 1 := by
    have := List.take_append_drop 1 (cs.drop 1)
    rwa [List.drop_drop] at this
  rw [e4, e3, e2, e1, List.take_append_drop]
def inNte : InT Nte := fun n B w cs => ∃ ad cd, cs = ntC n (.slice ad n.data.length cd) ∧ inBytes n.data B w [.slice ad n.data.length cd] ∧ Fits n
theorem opens_nte : Opens Try.prog 58 inNte := by
  intro H enc w fuel cs x h
  obtain ⟨hl, hf⟩ := opens_fields (P := Try.prog) Try.underlying58 h
  rw [show Try.prog.cellsOf 58 = 37 by kernel_rfl] at hl
  obtain ⟨n0, y0, h0⟩ := hf 0 _ rfl
  obtain ⟨n1, y1, h1⟩ := hf 1 _ rfl
  obtain ⟨n2, y2, h2⟩ := hf 2 _ rfl
  obtain ⟨n3, y3, h3⟩ := hf 3 _ rfl
  obtain ⟨n4, y4, h4⟩ := hf 4 _ rfl
  obtain ⟨a0, e0, w0⟩ := opens_int (P := Try.prog) Try.underlying5 H enc w n0 _ y0 h0
  obtain ⟨a1, e1, w1⟩ := opens_int (P := Try.prog) Try.underlying50 H enc w n1 _ y1 h1
  obtain ⟨a2, e2, w2⟩ := opens_int (P := Try.prog) Try.underlying51 H enc w n2 _ y2 h2
  obtain ⟨k, hk, hk1, hk2⟩ := opens_key H enc w n3 _ y3 h3
  obtain ⟨l, hb⟩ := opens_bytes (P := Try.prog) Try.underlying56 Try.underlying5 (by kernel_rfl) H enc w n4 _ y4 h4
  have k0 : Try.prog.cellsOf 5 = 1 := by kernel_rfl
  have k1 : Try.prog.cellsOf 50 = 1 := by kernel_rfl
  have k2 : Try.prog.cellsOf 51 = 1 := by kernel_rfl
  have k3 : Try.prog.cellsOf 55 = 33 := by kernel_rfl
  have k4 : Try.prog.cellsOf 56 = 1 := by kernel_rfl
  obtain ⟨c, rfl⟩ := u8_byte w0
  obtain ⟨ad, rfl, had⟩ := nat_u32 w1
  obtain ⟨sq, rfl, hsq⟩ := nat_u64 w2
  have f0 : cs.take 1 = [.int .u8 (c.toNat : Int)] := by simpa [k0] using e0
  have f1 : (cs.drop 1).take 1 = [.int .u32 (ad : Int)] := by simpa [k1] using e1
  have f2 : (cs.drop 2).take 1 = [.int .u64 (sq : Int)] := by simpa [k2] using e2
  have f3 : (cs.drop 3).take 33 = keyC k.1 k.2 := by simpa [k3] using hk
  have hb' : inBytes l w.heap.size w ((cs.drop 36).take 1) := by simpa [k4] using hb
  have hbb := hb'
  obtain ⟨ab, cb, q1, q2, q3, q4, q5⟩ := hb'
  rw [q1] at hbb
  refine ⟨⟨c, ad, sq, k.1, k.2, l⟩, ab, cb, ?_, hbb, ⟨had, hsq, hk1, hk2⟩⟩
  unfold ntC
  simp only
  rw [← f3, ← q1]
  have h37 := split37 cs hl
  rw [f0, f1, f2] at h37
  exact h37
end Rec
end Go.Proofs.Ytmdphcebmgcdbaa

end
section
namespace Go.Proofs.Ytmdphcebmgcdbaa
open Go.RowKit Go.Own
namespace Lg
open Go.LogM Byt
def inPlc : InT Plc := fun p _ _ cs => cs = (plcA p).toList ∧ i64L p.seg ∧ i64L p.page ∧ i64L p.pages
theorem list3 (cs : List Value) (h : cs.length = 3) {a b c : Value} (f0 : cs.take 1 = [a]) (f1 : (cs.drop 1).take 1 = [b]) (f2 : (cs.drop 2).take 1 = [c]) : cs = [a, b, c] := by
  obtain ⟨x, r, rfl⟩ := List.exists_cons_of_length_eq_add_one h
  obtain ⟨y, r2, rfl⟩ := List.exists_cons_of_length_eq_add_one (l := r) (by simpa using h)
  obtain ⟨z, r3, rfl⟩ := List.exists_cons_of_length_eq_add_one (l := r2) (by simpa using h)
  obtain rfl := List.eq_nil_of_length_eq_zero (l := r3) (by simpa using h)
  have q0 : x = a := (List.cons.inj f0).1
  have q1 : y = b := (List.cons.inj f1).1
  have q2 : z = c := (List.cons.inj f2).1
  rw [q0, q1, q2]
theorem opens_plc : Opens Try.prog 60 inPlc := by
  intro H enc w fuel cs x h
  obtain ⟨hl, hf⟩ := opens_fields (P := Try.prog) Try.underlying60 h
  rw [show Try.prog.cellsOf 60 = 3 by kernel_rfl] at hl
  obtain ⟨n0, y0, h0⟩ := hf 0 _ rfl
  obtain ⟨n1, y1, h1⟩ := hf 1 _ rfl
  obtain ⟨n2, y2, h2⟩ := hf 2 _ rfl
  obtain ⟨a0, e0, w0⟩ := opens_int (P := Try.prog) Try.underlying3 H enc w n0 _ y0 h0
  obtain ⟨a1, e1, w1⟩ := opens_int (P := Try.prog) Try.underlying3 H enc w n1 _ y1 h1
  obtain ⟨a2, e2, w2⟩ := opens_int (P := Try.prog) Try.underlying3 H enc w n2 _ y2 h2
  have k0 : Try.prog.cellsOf 3 = 1 := by kernel_rfl
  have f0 : cs.take 1 = [.int .i64 a0] := by simpa [k0] using e0
  have f1 : (cs.drop 1).take 1 = [.int .i64 a1] := by simpa [k0] using e1
  have f2 : (cs.drop 2).take 1 = [.int .i64 a2] := by simpa [k0] using e2
  refine ⟨⟨a0, a1, a2⟩, ?_, Fla.wf64 w0, Fla.wf64 w1, Fla.wf64 w2⟩
  exact list3 cs hl f0 f1 f2
set_option maxRecDepth 4000 in
theorem split44 (cs : List Value) (h : cs.length = 44) : cs = cs.take 1 ++ ((cs.drop 1).take 37 ++ ((cs.drop 38).take 3 ++ ((cs.drop 41).take 1 ++ ((cs.drop 42).take 1 ++ (cs.drop 43).take 1)))) := by
  have e5 : (cs.drop 43).take 1 = cs.drop 43 := List.take_of_length_le (by simp [h])
  have e4 : (cs.drop 42).take 1 ++ cs.drop 43 = cs.drop 42 := by
    have := List.take_append_drop 1 (cs.drop 42)
    rwa [List.drop_drop] at this
  have e3 : (cs.drop 41).take 1 ++ cs.drop 42 = cs.drop 41 := by
    have := List.take_append_drop 1 (cs.drop 41)
    rwa [List.drop_drop] at this
  have e2 : (cs.drop 38).take 3 ++ cs.drop 41 = cs.drop 38 := by
    have := List.take_append_drop 3 (cs.drop 38)
    rwa [List.drop_drop] at this
  have e1 : (cs.drop 1).take 37 ++ cs.drop 38 = cs.drop 1 := by
    have := List.take_append_drop 37 (cs.drop 1)
    rwa [List.drop_drop] at this
  rw [e5, e4, e3, e2, e1, List.take_append_drop]
set_option maxRecDepth 4000 in
theorem opens_act : Opens Try.prog 62 inAct := by
  intro H enc w fuel cs x h
  obtain ⟨hl, hf⟩ := opens_fields (P := Try.prog) Try.underlying62 h
  rw [show Try.prog.cellsOf 62 = 44 by kernel_rfl] at hl
  obtain ⟨n0, y0, h0⟩ := hf 0 _ rfl
  obtain ⟨n1, y1, h1⟩ := hf 1 _ rfl
  obtain ⟨n2, y2, h2⟩ := hf 2 _ rfl
  obtain ⟨n3, y3, h3⟩ := hf 3 _ rfl
  obtain ⟨n4, y4, h4⟩ := hf 4 _ rfl
  obtain ⟨n5, y5, h5⟩ := hf 5 _ rfl
  obtain ⟨a0, e0, w0⟩ := opens_int (P := Try.prog) Try.underlying5 H enc w n0 _ y0 h0
  obtain ⟨n, ad, cd, en, hb, hfit⟩ := Rec.opens_nte H enc w n1 _ y1 h1
  obtain ⟨p, ep, hp⟩ := opens_plc H enc w n2 _ y2 h2
  obtain ⟨a3, e3, _⟩ := opens_int (P := Try.prog) Try.underlying3 H enc w n3 _ y3 h3
  obtain ⟨a4, e4, w4⟩ := opens_int (P := Try.prog) Try.underlying5 H enc w n4 _ y4 h4
  obtain ⟨l, af, cf, e5, _⟩ := opens_slice (P := Try.prog) 1 Try.underlying44 (by kernel_rfl) (by decide) (opens_int (P := Try.prog) Try.underlying3) H enc w n5 _ y5 h5
  have k0 : Try.prog.cellsOf 5 = 1 := by kernel_rfl
  have k1 : Try.prog.cellsOf 58 = 37 := by kernel_rfl
  have k2 : Try.prog.cellsOf 60 = 3 := by kernel_rfl
  have k3 : Try.prog.cellsOf 3 = 1 := by kernel_rfl
  have k5 : Try.prog.cellsOf 44 = 1 := by kernel_rfl
  obtain ⟨c, rfl⟩ := u8_byte w0
  obtain ⟨c4, rfl⟩ := u8_byte w4
  have f0 : cs.take 1 = [.int .u8 (c.toNat : Int)] := by simpa [k0] using e0
  have f1 : (cs.drop 1).take 37 = Rec.ntC n (.slice ad n.data.length cd) := by simpa [k1] using en
  have f2 : (cs.drop 38).take 3 = (plcA p).toList := by simpa [k2] using ep
  have f3 : (cs.drop 41).take 1 = [.int .i64 a3] := by simpa [k3] using e3
  have f4 : (cs.drop 42).take 1 = [.int .u8 (c4.toNat : Int)] := by simpa [k0] using e4
  have f5 : (cs.drop 43).take 1 = [.slice af l.length cf] := by simpa [k5] using e5
  have g := in_given hb
  refine ⟨⟨c, n, p, a3, c4, l⟩, ad, cd, af, l.length, cf, ?_, ⟨g.view, g.room, g.nil, hfit, hp⟩⟩
  have h44 := split44 cs hl
  rw [f0, f1, f2, f3, f4, f5] at h44
  exact h44
theorem in_makes (s : Int) (hs : (Lit.int .u8 s).wf = true) (r : Int) (hr : (Lit.int .u8 r).wf = true) (p : Int) (hp : (Lit.int .u8 p).wf = true) (fr : Int) (hf : (Lit.int .i64 fr).wf = true) {w : World} {FK : Fla.Kept w} {TK : Tab.Kept w} (K : Kept w FK TK) : Calls Try.prog 3 #[.int .u8 s, .int .u8 r, .int .u8 p, .int .i64 fr] w (RetYes w) := by
  obtain ⟨s, rfl⟩ := u8_byte hs
  obtain ⟨r, rfl⟩ := u8_byte hr
  obtain ⟨p, rfl⟩ := u8_byte hp
  have h1 := s.toNat_lt
  have h2 := r.toNat_lt
  have h3 := p.toNat_lt
  exact walk_makes K s.toNat r.toNat p.toNat (by omega) (by omega) (by omega) fr (Fla.wf64 hf) (Below.refl _ _)
theorem in_nil (vs : Array Value) (a : ActD) {w : World} (h : inAct a w.heap.size w vs.toList) {FK : Fla.Kept w} {TK : Tab.Kept w} (K : Kept w FK TK) : Calls Try.prog 5 #[.agg vs] w (RetYes w) := by
  obtain ⟨ad, cd, af, nf, cf, e, g⟩ := h
  have e2 : vs = (actC a (.slice ad a.n.data.length cd) (.slice af nf cf)).toArray := by rw [← e]
  rw [e2]
  exact walk_nil K a ad af _ cd nf cf g.fits.sum (Below.refl _ _)
theorem in_apart (a0 : Option Addr) (len0 cap0 : Nat) (l : List ActD) (p : Int) (hp : (Lit.int .u8 p).wf = true) {w : World} (w0 : inSlice 44 inAct l w.heap.size w [.slice a0 len0 cap0]) {FK : Fla.Kept w} {TK : Tab.Kept w} (K : Kept w FK TK) : Calls Try.prog 6 #[.slice a0 len0 cap0, .int .u8 p] w (RetYes w) := by
  obtain ⟨p, rfl⟩ := u8_byte hp
  have h3 := p.toNat_lt
  exact walk_apart K a0 len0 cap0 l p.toNat (by omega) w0
theorem in_prefix (a0 : Option Addr) (len0 cap0 : Nat) (l : List ActD) (p : Int) (hp : (Lit.int .u8 p).wf = true) (cut : Int) (hcut : (Lit.int .i64 cut).wf = true) (a3 : Option Addr) (len3 cap3 : Nat) (fates : List Int) {w : World} (w0 : inSlice 44 inAct l w.heap.size w [.slice a0 len0 cap0]) (w3 : inSlice 1 (inInt .i64) fates w.heap.size w [.slice a3 len3 cap3]) {FK : Fla.Kept w} {TK : Tab.Kept w} (K : Kept w FK TK) :
    Calls Try.prog 4 #[.slice a0 len0 cap0, .int .u8 p, .int .i64 cut, .slice a3 len3 cap3] w (RetYes w) := by
  obtain ⟨p, rfl⟩ := u8_byte hp
  have h3 := p.toNat_lt
  exact walk_prefix K a0 len0 cap0 l p.toNat (by omega) cut (Fla.wf64 hcut) a3 len3 cap3 fates w0 w3
end Lg
end Go.Proofs.Ytmdphcebmgcdbaa

end
section
namespace Go.LogM
open FlaM (FS)
structure LR (pp : Nat) (tb : TabM.T) (a q nx : Nat) : Prop where
  seq : q < tb.next
  low : nx ≤ pp
  cur : ∀ i, TabM.cur tb = some i → ((TabM.at_ tb.rows i).seq = q ∧ nx = a) ∨ ((TabM.at_ tb.rows i).seq ≠ q ∧ a = pp)
def leftN (pp : Nat) (tb : TabM.T) (q nx : Nat) : Nat :=
  match TabM.cur tb with
  | none => 0
  | some i => if (TabM.at_ tb.rows i).seq = q then pp - nx else 0
theorem left_none {pp q nx : Nat} {tb : TabM.T} (h : TabM.cur tb = none) : leftN pp tb q nx = 0 := by unfold leftN; rw [h]
theorem left_some {pp q nx i : Nat} {tb : TabM.T} (h : TabM.cur tb = some i) : leftN pp tb q nx = if (TabM.at_ tb.rows i).seq = q then pp - nx else 0 := by unfold leftN; rw [h]
section
variable {pp : Nat} {tb : TabM.T} {a q nx N : Nat}
theorem LR.left (h : LR pp tb a q nx) : leftN pp tb q nx = if (TabM.cur tb).isSome = true then pp - a else 0 := by
  cases hc : TabM.cur tb with
  | none => rw [left_none hc]; rfl
  | some i =>
    rw [left_some hc]
    simp only [Option.isSome_some, if_true]
    rcases h.cur i hc with ⟨h1, h2⟩ | ⟨h1, h2⟩
    · rw [if_pos h1, h2]
    · rw [if_neg h1, h2, Nat.sub_self]
theorem LR.here (h : LR pp tb a q nx) {i : Nat} (hc : TabM.cur tb = some i) (ha : a < pp) : (TabM.at_ tb.rows i).seq = q ∧ nx = a := by
  rcases h.cur i hc with h1 | ⟨_, h2⟩
  · exact h1
  · omega
theorem lr_new (ok : TabM.Ok tb N) : LR pp tb pp 0 pp :=
  ⟨ok.low, Nat.le_refl _, fun i _ => by
    by_cases h : (TabM.at_ tb.rows i).seq = 0
    · exact .inl ⟨h, rfl⟩
    · exact .inr ⟨h, rfl⟩⟩
theorem LR.step (h : LR pp tb a q nx) {i : Nat} (hc : TabM.cur tb = some i) (ha : a < pp) : LR pp tb (a + 1) q (nx + 1) := by
  obtain ⟨h1, h2⟩ := h.here hc ha
  refine ⟨h.seq, by omega, fun j hj => ?_⟩
  rw [hc] at hj
  cases hj
  exact .inl ⟨h1, by omega⟩
theorem seal_none (h : TabM.LoadOk tb.rows tb.next) : TabM.cur (TabM.sealT tb).1 = none := by
  unfold TabM.sealT
  cases hc : TabM.cur tb with
  | none => exact hc
  | some i =>
    obtain ⟨hi, hk⟩ := TabM.cur_some hc
    show TabM.curF 0 (tb.rows.set i _) = none
    refine curF_no _ _ fun s hs hs1 => ?_
    obtain ⟨j, hj, rfl⟩ := List.getElem_of_mem hs
    rw [List.length_set] at hj
    by_cases hij : i = j
    · subst hij
      rw [List.getElem_set_self] at hs1
      cases hs1
    · rw [List.getElem_set_ne hij] at hs1
      rw [TabM.at_lt hi] at hk
      exact hij (h.one i j hi hj hk hs1)
theorem seal_next (tb : TabM.T) : (TabM.sealT tb).1.next = tb.next := by
  unfold TabM.sealT
  split <;> rfl
theorem seal_len (tb : TabM.T) : (TabM.sealT tb).1.rows.length = tb.rows.length := by
  unfold TabM.sealT
  split
  · rfl
  · exact List.length_set
theorem LR.sealed (h : LR pp tb a q nx) (hl : TabM.LoadOk tb.rows tb.next) (a' : Nat) : LR pp (TabM.sealT tb).1 a' q nx :=
  ⟨by rw [seal_next]; exact h.seq, h.low, fun i hi => by rw [seal_none hl] at hi; cases hi⟩
structure Opn (tb : TabM.T) (i : Nat) : Prop where
  eq : (TabM.openT tb).2 = (i, tb.next, 0)
  next : (TabM.openT tb).1.next = tb.next + 1
  lt : i < tb.rows.length
  len : (TabM.openT tb).1.rows.length = tb.rows.length
  cur : TabM.cur (TabM.openT tb).1 = some i
  seq : (TabM.at_ (TabM.openT tb).1.rows i).seq = tb.next
theorem opn_of (hc : TabM.cur tb = none) (h0 : (TabM.openT tb).2.2.2 = 0) : ∃ i, Opn tb i := by
  unfold TabM.openT at h0
  rw [hc] at h0
  cases hb : TabM.best tb with
  | none => rw [hb] at h0; cases h0
  | some x =>
    obtain ⟨i, w⟩ := x
    obtain ⟨hi, hk, _⟩ := TabM.best_some hb
    have e : TabM.openT tb = (TabM.opened tb i w, (i, tb.next, 0)) := by unfold TabM.openT; rw [hc, hb]
    have hnk : ∀ j, j < tb.rows.length → (TabM.at_ tb.rows j).kind ≠ 1 := fun j hj => TabM.curF_none _ _ hc _ (TabM.at_mem hj)
    have hat : TabM.at_ (TabM.opened tb i w).rows i = ⟨1, tb.next, w + 1⟩ := by
      show TabM.at_ (tb.rows.set i _) i = _
      rw [TabM.at_lt (by rw [List.length_set]; exact hi), List.getElem_set_self]
    refine ⟨i, ?_, ?_, hi, ?_, ?_, ?_⟩
    · rw [e]
    · rw [e]; rfl
    · rw [e]; exact List.length_set
    · rw [e]
      have := curF_first (tb.rows.set i ⟨1, tb.next, w + 1⟩) 0 i (by rw [List.length_set]; exact hi) (fun j hj => by
        have hjl : j < tb.rows.length := by omega
        rw [TabM.at_lt (by rw [List.length_set]; exact hjl), List.getElem_set_ne (by omega), ← TabM.at_lt hjl]
        exact hnk j hjl) (by rw [show TabM.at_ (tb.rows.set i ⟨1, tb.next, w + 1⟩) i = _ from hat])
      rw [Nat.zero_add] at this
      exact this
    · rw [e, hat]
theorem open_err (h0 : (TabM.openT tb).2.2.2 ≠ 0) : (TabM.openT tb).1 = tb := by
  unfold TabM.openT at h0 ⊢
  cases hc : TabM.cur tb with
  | some _ => rfl
  | none =>
    rw [hc] at h0
    cases hb : TabM.best tb with
    | none => rfl
    | some x => rw [hb] at h0; exact absurd rfl h0
/-- a segment was opened, and begun -/
theorem LR.begun (h : LR pp tb a q nx) {i : Nat} (o : Opn tb i) (hp : 1 ≤ pp) : LR pp (TabM.openT tb).1 1 tb.next 1 :=
  ⟨by rw [o.next]; exact Nat.lt_succ_self _, hp, fun j hj => by rw [o.cur] at hj; cases hj; exact .inl ⟨o.seq, rfl⟩⟩
/-- .. or not begun -/
theorem LR.bare (h : LR pp tb a q nx) {i : Nat} (o : Opn tb i) : LR pp (TabM.openT tb).1 pp q nx :=
  ⟨by rw [o.next]; have := h.seq; omega, h.low, fun j hj => by rw [o.cur] at hj; cases hj; exact .inr ⟨by rw [o.seq]; have := h.seq; omega, rfl⟩⟩
end
/-! ### what the operations leave as it is -/
theorem erase_dims (s : FS) (seg : Int) : (FlaM.erase s seg).1.pp = s.pp ∧ (FlaM.erase s seg).1.safe.length = s.safe.length := by
  have e : (FlaM.trip s).pp = s.pp ∧ (FlaM.trip s).safe = s.safe := by unfold FlaM.trip; split <;> exact ⟨rfl, rfl⟩
  unfold FlaM.erase
  split
  · exact ⟨rfl, rfl⟩
  · split
    · exact ⟨e.1, by rw [e.2]⟩
    · exact ⟨e.1, by show (FlaM.trip s).safe.length = _; rw [e.2]⟩
theorem doAll_len (pp : Nat) (fates : List Int) : ∀ (L : List FlaM.Act) (safe : List (List Bs)) (i : Nat), (FlaM.doAll pp fates safe i L).length = safe.length
  | [], _, _ => rfl
  | x :: L, safe, i => by
    unfold FlaM.doAll
    rw [doAll_len pp fates L]
    unfold FlaM.doOne
    split
    · exact FlaM.setPage_len _ _ _ _
    · exact FlaM.clearTo_len _ _ _
theorem barrier_dims (s : FS) : (FlaM.barrier s).1.pp = s.pp ∧ (FlaM.barrier s).1.safe.length = s.safe.length := by
  have e : (FlaM.trip s).pp = s.pp ∧ (FlaM.trip s).safe = s.safe := by unfold FlaM.trip; split <;> exact ⟨rfl, rfl⟩
  unfold FlaM.barrier
  split
  · exact ⟨e.1, by rw [e.2]⟩
  · refine ⟨e.1, ?_⟩
    show (FlaM.doAll _ _ (FlaM.trip s).safe 0 _).length = _
    rw [doAll_len, e.2]
theorem prog_dims (s : FS) (seg page : Int) (b : Bs) : (FlaM.progF s seg page b).1.pp = s.pp ∧ (FlaM.progF s seg page b).1.safe.length = s.safe.length := by
  have e : (FlaM.trip s).pp = s.pp ∧ (FlaM.trip s).safe = s.safe := by unfold FlaM.trip; split <;> exact ⟨rfl, rfl⟩
  unfold FlaM.progF
  split
  · exact ⟨rfl, rfl⟩
  split
  · exact ⟨rfl, rfl⟩
  split
  · exact ⟨rfl, rfl⟩
  split
  · exact ⟨e.1, by rw [e.2]⟩
  · exact ⟨e.1, by show (FlaM.trip s).safe.length = _; rw [e.2]⟩
theorem head_facts {s : FS} {N : Nat} (ok : FlaM.Ok s N) (g seq : Nat) : (headL g seq s).1.1.pp = s.pp ∧ (headL g seq s).1.1.safe.length = s.safe.length ∧ FlaM.Ok (headL g seq s).1.1 (N + 3) ∧ ((headL g seq s).2 ≠ 0 → (headL g seq s).1.2 = s.pp) ∧ ((headL g seq s).2 = 0 → (headL g seq s).1.2 = 1) := by
  have ok1 := FlaM.ok_erase ok (g : Int)
  have ok2 := FlaM.ok_barrier ok1
  have ok3 := FlaM.ok_program ok2 (g : Int) ((0 : Nat) : Int) (hdr seq)
  have d1 := erase_dims s (g : Int)
  have d2 := barrier_dims (FlaM.erase s (g : Int)).1
  have d3 := prog_dims (FlaM.barrier (FlaM.erase s (g : Int)).1).1 (g : Int) ((0 : Nat) : Int) (hdr seq)
  unfold headL
  split
  · rename_i h
    exact ⟨d1.1, d1.2, ok1.more (by omega), fun _ => rfl, fun h0 => absurd h0 h⟩
  split
  · rename_i h
    exact ⟨d2.1.trans d1.1, d2.2.trans d1.2, ok2.more (by omega), fun _ => rfl, fun h0 => absurd h0 h⟩
  split
  · rename_i h
    exact ⟨d3.1.trans (d2.1.trans d1.1), d3.2.trans (d2.2.trans d1.2), ok3, fun _ => rfl, fun h0 => absurd h0 h⟩
  · exact ⟨d3.1.trans (d2.1.trans d1.1), d3.2.trans (d2.2.trans d1.2), ok3, fun h0 => absurd rfl h0, fun _ => rfl⟩
/-! ### how much is joined -/
theorem joinF_size : ∀ (l : List Bs) (i : Nat) (k : UInt8) (all : Bs), all.length ≤ 125 * i → (PagM.joinF i k all l).1.2.1.length ≤ 8000 ∧ (PagM.joinF i k all l).1.2.2 ≤ i + l.length ∧ ((PagM.joinF i k all l).2 = 0 → i < (PagM.joinF i k all l).1.2.2)
  | [], i, k, all, _ => ⟨Nat.zero_le _, Nat.zero_le _, fun h => (by cases h)⟩
  | p :: l, i, k, all, ha => by
    unfold PagM.joinF
    split
    · exact ⟨Nat.zero_le _, Nat.zero_le _, fun h => (by cases h)⟩
    rename_i hi
    split
    · exact ⟨Nat.zero_le _, Nat.zero_le _, fun h => (by cases h)⟩
    rename_i hp
    have hpg : PagM.isPage p = true := by
      cases h : PagM.isPage p
      · rw [h] at hp; simp at hp
      · rfl
    obtain ⟨h1, h2, _⟩ := PagM.isPage_props hpg
    obtain ⟨_, g2⟩ := PagM.guess_small p h1 h2
    have hal : (all ++ (PagM.guess p).data).length ≤ 125 * (i + 1) := by rw [List.length_append]; omega
    split
    · refine ⟨by simp only; omega, ?_, fun _ => Nat.lt_succ_self _⟩
      simp only [List.length_cons]
      omega
    · obtain ⟨q1, q2, q3⟩ := joinF_size l (i + 1) (PagM.guess p).kind _ hal
      exact ⟨q1, by simp only [List.length_cons]; omega, fun h => by have := q3 h; omega⟩
theorem join_size (l : List Bs) : (PagM.join l).1.2.1.length ≤ 8000 ∧ (PagM.join l).1.2.2 ≤ l.length ∧ ((PagM.join l).2 = 0 → 0 < (PagM.join l).1.2.2) := by
  have := joinF_size l 0 0 [] (Nat.zero_le _)
  rw [Nat.zero_add] at this
  exact this
/-- what noteAt answers -/
noncomputable def resN (x : Option (RecM.Nte × Nat)) : RecM.Nte × Nat := x.getD (RecM.zeroN, 0)
theorem note1_size {l : List Bs} {n : RecM.Nte} {k : Nat} (h : note1 l = some (n, k)) : 0 < k ∧ k ≤ l.length := by
  unfold note1 at h
  split at h
  · rename_i hc
    cases h
    obtain ⟨_, h2, h3⟩ := join_size l
    exact ⟨h3 hc.1, h2⟩
  · cases h
/-- an open segment that has room for so many pages -/
def readyL (fr : Nat) (σ : LG) (m : Nat) : LG × Nat := if (roomL σ m).2 ≠ 0 then roomL σ m else needL fr (roomL σ m).1
theorem append_ready (fr : Nat) (σ : LG) (n : RecM.Nte) : appendL fr σ n = if RecM.right n = false then (σ, (zP, 1)) else if σ.fs.pp < 1 + (notePages n).length then (σ, (zP, 4)) else
    if (readyL fr σ (notePages n).length).2 ≠ 0 then ((readyL fr σ (notePages n).length).1, (zP, (readyL fr σ (notePages n).length).2)) else putL fr (readyL fr σ (notePages n).length).1 (notePages n) := by
  unfold appendL readyL
  by_cases h : (roomL σ (notePages n).length).2 ≠ 0
  · simp only [if_pos h]
  · simp only [if_neg h]
/-- what is known of a log between the calls of its own -/
structure Mid (fr : Nat) (σ : LG) (N : Nat) : Prop where
  fs : FlaM.Ok σ.fs N
  tb : TabM.Ok σ.tb N
  room : fr + σ.tb.rows.length ≤ σ.fs.safe.length
  pp : 2 ≤ σ.fs.pp
section
variable {fr m : Nat} {σ : LG} {N : Nat}
theorem LgOk.mid (h : LgOk fr σ N) : Mid fr σ N := ⟨h.fs, h.tb, h.room, h.pp⟩
theorem close_mid (h : LgOk fr σ N) : Mid fr (closeL σ).1 (N + 1) ∧ (closeL σ).1.fs.pp = σ.fs.pp ∧ ((closeL σ).2 = 0 → TabM.cur (closeL σ).1.tb = none) ∧ ((TabM.cur σ.tb).isSome = true → (closeL σ).2 ≠ 0 → (closeL σ).1.tb = σ.tb ∧ (closeL σ).1.a = σ.a) ∧ (TabM.cur σ.tb = none → closeL σ = (σ, 0)) := by
  have d := barrier_dims σ.fs
  have okb := FlaM.ok_barrier h.fs
  unfold closeL
  cases hc : TabM.cur σ.tb with
  | none => exact ⟨⟨h.fs.more (by omega), h.tb.more (by omega), h.room, h.pp⟩, rfl, fun _ => hc, fun h => (by cases h), fun _ => rfl⟩
  | some i =>
    simp only
    split
    · refine ⟨⟨okb, (TabM.ok_seal h.tb).more (by omega), ?_, ?_⟩, d.1, fun _ => seal_none h.load, fun _ h => absurd rfl h, fun h => (by cases h)⟩
      · show fr + (TabM.sealT σ.tb).1.rows.length ≤ (FlaM.barrier σ.fs).1.safe.length
        rw [seal_len, d.2]; exact h.room
      · show 2 ≤ (FlaM.barrier σ.fs).1.pp
        rw [d.1]; exact h.pp
    · rename_i hb
      refine ⟨⟨okb, h.tb.more (by omega), ?_, ?_⟩, d.1, fun h => absurd h hb, fun _ _ => ⟨rfl, rfl⟩, fun h => (by cases h)⟩
      · show fr + σ.tb.rows.length ≤ (FlaM.barrier σ.fs).1.safe.length
        rw [d.2]; exact h.room
      · show 2 ≤ (FlaM.barrier σ.fs).1.pp
        rw [d.1]; exact h.pp
theorem open_mid (h : Mid fr σ N) (hc : TabM.cur σ.tb = none) : Mid fr (openL fr σ).1 (N + 3) ∧ (openL fr σ).1.fs.pp = σ.fs.pp ∧ ((openL fr σ).2 = 0 → (∃ i, TabM.cur (openL fr σ).1.tb = some i) ∧ (openL fr σ).1.a = 1) := by
  unfold openL
  by_cases h0 : (TabM.openT σ.tb).2.2.2 ≠ 0
  · rw [if_pos h0]
    simp only
    rw [open_err h0]
    exact ⟨⟨h.fs.more (by omega), h.tb.more (by omega), h.room, h.pp⟩, by simp, fun h => absurd h h0⟩
  · rw [if_neg h0]
    obtain ⟨i, o⟩ := opn_of hc (by simpa using h0)
    obtain ⟨f1, f2, f3, f4, f5⟩ := head_facts h.fs (fr + (TabM.openT σ.tb).2.1) (TabM.openT σ.tb).2.2.1
    refine ⟨⟨f3, (TabM.ok_open h.tb).more (by omega), ?_, ?_⟩, f1, fun h => ⟨⟨i, o.cur⟩, f5 h⟩⟩
    · show fr + (TabM.openT σ.tb).1.rows.length ≤ _
      rw [o.len]
      exact Nat.le_trans h.room (Nat.le_of_eq f2.symm)
    · exact Nat.le_trans h.pp (Nat.le_of_eq f1.symm)
theorem ready_here (hc : (TabM.cur σ.tb).isSome = true) (hm : σ.a + m ≤ σ.fs.pp) : readyL fr σ m = (σ, 0) := by
  have e : roomL σ m = (σ, 0) := by unfold roomL; rw [if_neg]; rintro ⟨_, h⟩; omega
  unfold readyL
  rw [e, if_neg (by simp)]
  unfold needL
  rw [if_pos hc]
theorem ready_shut (h : LgOk fr σ N) (hc : (TabM.cur σ.tb).isSome = true → σ.fs.pp < σ.a + m) : readyL fr σ m = if (closeL σ).2 ≠ 0 then closeL σ else openL fr (closeL σ).1 := by
  obtain ⟨_, _, c1, _, c3⟩ := close_mid h
  have e : roomL σ m = closeL σ := by
    unfold roomL
    by_cases hs : (TabM.cur σ.tb).isSome = true
    · rw [if_pos ⟨hs, hc hs⟩]
    · rw [if_neg (fun h => hs h.1)]
      exact (c3 (by simpa using hs)).symm
  unfold readyL
  rw [e]
  by_cases h0 : (closeL σ).2 ≠ 0
  · rw [if_pos h0, if_pos h0]
  · rw [if_neg h0, if_neg h0]
    unfold needL
    rw [c1 (by simpa using h0), if_neg (by simp)]
theorem ready_mid (h : LgOk fr σ N) (hm : 1 + m ≤ σ.fs.pp) : Mid fr (readyL fr σ m).1 (N + 4) ∧ (readyL fr σ m).1.fs.pp = σ.fs.pp ∧ ((readyL fr σ m).2 = 0 → (∃ i, TabM.cur (readyL fr σ m).1.tb = some i) ∧ 1 ≤ (readyL fr σ m).1.a ∧ (readyL fr σ m).1.a + m ≤ σ.fs.pp) := by
  have hmid := h.mid
  by_cases hc : (TabM.cur σ.tb).isSome = true ∧ σ.a + m ≤ σ.fs.pp
  · rw [ready_here hc.1 hc.2]
    refine ⟨⟨h.fs.more (by omega), h.tb.more (by omega), h.room, h.pp⟩, rfl, fun _ => ⟨?_, (h.a hc.1).1, hc.2⟩⟩
    exact Option.isSome_iff_exists.1 hc.1
  · rw [ready_shut (m := m) h (fun hs => by rcases Nat.lt_or_ge σ.fs.pp (σ.a + m) with h1 | h1; exact h1; exact absurd ⟨hs, h1⟩ hc)]
    obtain ⟨c1, c2, c3, c4, c5⟩ := close_mid h
    by_cases h0 : (closeL σ).2 ≠ 0
    · rw [if_pos h0]
      exact ⟨⟨c1.fs.more (by omega), c1.tb.more (by omega), c1.room, c1.pp⟩, c2, fun h => absurd h h0⟩
    · rw [if_neg h0]
      obtain ⟨o1, o2, o3⟩ := open_mid c1 (c3 (by simpa using h0))
      refine ⟨⟨o1.fs.more (by omega), o1.tb.more (by omega), o1.room, o1.pp⟩, o2.trans c2, fun h => ?_⟩
      obtain ⟨o4, o5⟩ := o3 h
      exact ⟨o4, by omega, by omega⟩
end
end Go.LogM

end
section
namespace Go.Proofs.Ytmdphcebmgcdbaa
open Go.RowKit Go.Own
namespace Pag
open Go.PagM Byt

abbrev errP (n : Nat) : Value := .int .i64 (n : Int)
/-- a frame as a value -/
abbrev frV (k : Nat) (a z : Bool) (d : Value) : Value := .agg #[.int .u8 (k : Int), .bool a, .bool z, d]
abbrev frC (k : Nat) (a z : Bool) (d : Value) : Array Value := #[.int .u8 (k : Int), .bool a, .bool z, d]
/-- an answer of Lay -/
def LayDone (x : PagM.Bs × Nat) (w : World) (e : Ending) (w' : World) : Prop := ∃ ao cap, e = .returned (.tuple #[.slice ao x.1.length cap, errP x.2]) ∧ Given w' ao x.1.length cap x.1 ∧ Below w.heap.size w w'
/-- .. and its bytes are one's own -/
def LayNew (x : PagM.Bs × Nat) (w : World) (e : Ending) (w' : World) : Prop := ∃ ao cap, e = .returned (.tuple #[.slice ao x.1.length cap, errP x.2]) ∧ Own.St w.heap.size w w' [AB ao x.1.length cap x.1]
theorem LayNew.done {x : PagM.Bs × Nat} {w : World} {e : Ending} {w' : World} (h : LayNew x w e w') : LayDone x w e w' := by
  obtain ⟨ao, cap, he, h⟩ := h
  exact ⟨ao, cap, he, given_own h 0 rfl, h.below⟩
end Pag
end Go.Proofs.Ytmdphcebmgcdbaa

end
section
namespace Go.Proofs.Ytmdphcebmgcdbaa
open Go.RowKit Go.Own
namespace Pag
open Go.PagM Byt
/-- an answer of Take -/
def TakeDone (x : Frm × Nat) (w : World) (e : Ending) (w' : World) : Prop := ∃ ao cap, e = .returned (.tuple #[frV x.1.kind.toNat x.1.first x.1.last (.slice ao x.1.data.length cap), errP x.2]) ∧ Given w' ao x.1.data.length cap x.1.data ∧ Below w.heap.size w w'
theorem info_frame (cs : Array Value) (h : cs.size = 4) : (Try.prog.info? 140).map (·.size) = some cs.size := by
  have h0 : (Try.prog.info? 140).map (fun i => i.size) = some 4 := by kernel_rfl
  rw [h]
  exact h0
end Pag
end Go.Proofs.Ytmdphcebmgcdbaa

end
section
namespace Go.Proofs.Ytmdphcebmgcdbaa
open Go.RowKit Go.Own
namespace Byt
/-- a list of bytes that a call may be given -/
structure GivenL (w : World) (ao : Option Addr) (n cap : Nat) (L : List (List UInt8)) : Prop where
  size : L.length = n
  room : n ≤ cap ∧ cap ≤ maxLen
  nil : ao = none → cap = 0
  rows : ∀ j, j < n → ∃ b o aj cj, ao = some ⟨b, o, none⟩ ∧ b < w.heap.size ∧ w.cell? ⟨b, o + j, none⟩ = some (.slice aj (L.getD j []).length cj) ∧ Given w aj (L.getD j []).length cj (L.getD j [])
theorem GivenL.later {w w' : World} {ao : Option Addr} {n cap : Nat} {L : List (List UInt8)} (h : GivenL w ao n cap L) (g : Below w.heap.size w w') : GivenL w' ao n cap L :=
  ⟨h.size, h.room, h.nil, fun j hj => by
    obtain ⟨b, o, aj, cj, h1, h2, h3, h4⟩ := h.rows j hj
    exact ⟨b, o, aj, cj, h1, Nat.lt_of_lt_of_le h2 g.size, cellLater h3 g, h4.later g⟩⟩
theorem oneBytes : One Try.prog 112 56 (.slice none 0 0) 24 := ⟨Try.underlying112, by kernel_rfl, rfl⟩
end Byt
namespace Pag
open Go.PagM Byt
def SplitDone (x : List PagM.Bs × Nat) (w : World) (e : Ending) (w' : World) : Prop := ∃ ao cap, e = .returned (.tuple #[.slice ao x.1.length cap, errP x.2]) ∧ GivenL w' ao x.1.length cap x.1 ∧ Below w.heap.size w w'
theorem split_err (x : List PagM.Bs × Nat) (k : Nat) (hx : x = ([], k)) (w : World) : SplitDone x w (.returned (.tuple #[.slice none 0 0, errP k])) w := by
  subst hx
  exact ⟨none, 0, rfl, ⟨rfl, ⟨Nat.le_refl _, Nat.zero_le _⟩, fun _ => rfl, fun j hj => absurd hj (Nat.not_lt_zero j)⟩, Below.refl _ _⟩
def boolN : Value → Nat
  | .bool true => 1
  | _ => 0
end Pag
end Go.Proofs.Ytmdphcebmgcdbaa

end
section
namespace Go.Proofs.Ytmdphcebmgcdbaa
open Go.RowKit Go.Own
namespace Pag
open Go.PagM Byt
def JoinDone (x : (UInt8 × PagM.Bs × Nat) × Nat) (w : World) (e : Ending) (w' : World) : Prop := ∃ ao cap, e = .returned (.tuple #[.int .u8 (x.1.1.toNat : Int), .slice ao x.1.2.1.length cap, .int .i64 (x.1.2.2 : Int), errP x.2]) ∧ Given w' ao x.1.2.1.length cap x.1.2.1 ∧ Below w.heap.size w w'
theorem join_err (x : (UInt8 × PagM.Bs × Nat) × Nat) (hx : x = ((0, [], 0), 90)) {w w' : World} (h : Below w.heap.size w w') : JoinDone x w (.returned (.tuple #[.int .u8 0, .slice none 0 0, .int .i64 0, errP 90])) w' := by
  subst hx
  exact ⟨none, 0, rfl, ⟨.inl rfl, rfl, ⟨Nat.le_refl _, Nat.zero_le _⟩, fun _ => rfl⟩, h⟩
theorem joinF_at (i : Nat) (k : UInt8) (all : PagM.Bs) (L : List PagM.Bs) (h : i < L.length) (h64 : i < 64) : joinF i k all (L.drop i) = if !isPage (L.getD i []) || (guess (L.getD i [])).first != decide (i = 0) || (decide (0 < i) && (guess (L.getD i [])).kind != k) || (!(guess (L.getD i [])).last && decide ((guess (L.getD i [])).data.length ≠ 125)) then ((0, [], 0), 90)
    else if (guess (L.getD i [])).last then (((guess (L.getD i [])).kind, all ++ (guess (L.getD i [])).data, i + 1), 0)
    else joinF (i + 1) (guess (L.getD i [])).kind (all ++ (guess (L.getD i [])).data) (L.drop (i + 1)) := by
  rw [List.drop_eq_getElem_cons h, joinF, if_neg (by omega)]
  have e : L.getD i [] = L[i] := by rw [List.getD_eq_getElem?_getD, List.getElem?_eq_getElem h]; rfl
  rw [e]
end Pag
end Go.Proofs.Ytmdphcebmgcdbaa

end
section
namespace Go.PagM
/-- how many pages few lets be -/
def fewF : Nat → List Bs → Nat
  | _, [] => 0
  | i, p :: l => if 70 ≤ i ∨ 200 < p.length then 0 else fewF (i + 1) l + 1
def fewN (l : List Bs) : Nat := fewF 0 l
theorem fewF_le : ∀ (l : List Bs) (i : Nat), fewF i l ≤ l.length
  | [], _ => Nat.le_refl _
  | p :: l, i => by
    unfold fewF
    split
    · exact Nat.zero_le _
    · have := fewF_le l (i + 1); simp; omega
theorem fewF_most : ∀ (l : List Bs) (i : Nat), i ≤ 70 → fewF i l ≤ 70 - i
  | [], i, h => by unfold fewF; omega
  | p :: l, i, h => by
    unfold fewF
    split
    · omega
    · rename_i hc
      have hi : i < 70 := by omega
      have := fewF_most l (i + 1) (by omega)
      omega
theorem fewF_short : ∀ (l : List Bs) (i : Nat), ∀ p ∈ l.take (fewF i l), p.length ≤ 200
  | [], _, p, h => by simp at h
  | q :: l, i, p, h => by
    unfold fewF at h
    split at h
    · simp at h
    · rename_i hc
      rw [List.take_succ_cons] at h
      rcases List.mem_cons.1 h with rfl | h
      · omega
      · exact fewF_short l (i + 1) p h
end Go.PagM
namespace Go.Proofs.Ytmdphcebmgcdbaa
open Go.RowKit Go.Own
namespace Pag
open Go.PagM Byt
def RetYes (w : World) (e : Ending) (w' : World) : Prop := e = .returned (.bool true) ∧ Below w.heap.size w w'
/-- an answer of Take in memory of its own -/
def TakeNew (x : Frm × Nat) (w : World) (e : Ending) (w' : World) : Prop := ∃ ao cap, e = .returned (.tuple #[frV x.1.kind.toNat x.1.first x.1.last (.slice ao x.1.data.length cap), errP x.2]) ∧ Given w' ao x.1.data.length cap x.1.data ∧ View w' (fun k => w.heap.size ≤ k) ao x.1.data ∧ Below w.heap.size w w'
structure Kept (W : World) where
  lay : ∀ {w : World} (f : Frm) (ao : Option Addr) (n cap : Nat), Below W.heap.size W w → Given w ao n cap f.data → n ≤ 1000000 →
    Calls Try.prog 92 #[frV f.kind.toNat f.first f.last (.slice ao n cap)] w (LayDone (lay f) w)
  take : ∀ {w : World} (ao : Option Addr) (n cap : Nat) (p : PagM.Bs), Below W.heap.size W w → Given w ao n cap p → n ≤ 1000000 →
    Calls Try.prog 57 #[.slice ao n cap] w (TakeNew (PagM.take p) w)
  split : ∀ {w : World} (kind : UInt8) (ao : Option Addr) (n cap : Nat) (p : PagM.Bs), Below W.heap.size W w → Given w ao n cap p → n ≤ 1000000 →
    Calls Try.prog 53 #[.int .u8 (kind.toNat : Int), .slice ao n cap] w (SplitDone (split kind p) w)
  join : ∀ {w : World} (ao : Option Addr) (n cap : Nat) (L : List PagM.Bs), Below W.heap.size W w → GivenL w ao n cap L → n ≤ 1000000 → (∀ p ∈ L, p.length ≤ 1000000) →
    Calls Try.prog 61 #[.slice ao n cap] w (JoinDone (join L) w)

end Pag
end Go.Proofs.Ytmdphcebmgcdbaa

end
section
namespace Go.Own
open Go.RowKit
section
variable {B : Nat} {w0 w : World} {Ps : List Asn} {b : Nat} {t : TypeId} {vs : List Value}
/-- some of its cells are written -/
theorem St.setMid (i : Nat) : ∀ (r : List Value) (o : Nat) (w : World) (Ps : List Asn) (vs : List Value), St B w0 w Ps → Ps[i]? = some (AVals b t vs) → o + r.length ≤ vs.length →
    St B w0 (w.setCells b o r) (Ps.set i (AVals b t (vs.take o ++ r ++ vs.drop (o + r.length))))
  | [], o, w, Ps, l, h, hi, hl => by
    have ee : l.take o ++ [] ++ l.drop (o + ([] : List Value).length) = l := by simp
    rw [ee]
    have hs : Ps.set i (AVals b t l) = Ps := by
      apply List.ext_getElem?
      intro j
      by_cases hj : j = i
      · subst hj
        rw [List.getElem?_set_self (List.getElem?_eq_some_iff.1 hi).1, hi]
      · rw [List.getElem?_set_ne (Ne.symm hj)]
    rw [hs]
    exact h
  | c :: r, o, w, Ps, l, h, hi, hl => by
    have put := h.storeV i hi o c
    have hlt : i < Ps.length := (List.getElem?_eq_some_iff.1 hi).1
    have h2 := St.setMid i r (o + 1) _ _ (l.set o c) put (by rw [List.getElem?_set_self hlt]) (by simp at hl ⊢; omega)
    rw [List.set_set] at h2
    have ho : o < l.length := by simp at hl; omega
    have ee : (l.set o c).take (o + 1) ++ r ++ (l.set o c).drop (o + 1 + r.length) = l.take o ++ (c :: r) ++ l.drop (o + (c :: r).length) := by
      have e0 : (l.set o c).take o = l.take o := by
        apply List.ext_getElem?
        intro j
        by_cases hj : j < o
        · rw [List.getElem?_take_of_lt hj, List.getElem?_take_of_lt hj, List.getElem?_set_ne (by omega)]
        · rw [List.getElem?_eq_none (by simp; omega), List.getElem?_eq_none (by simp; omega)]
      have e1 : (l.set o c).drop (o + 1 + r.length) = l.drop (o + (c :: r).length) := by
        apply List.ext_getElem?
        intro j
        rw [List.getElem?_drop, List.getElem?_drop, List.getElem?_set_ne (by omega)]
        congr 1
        simp
        omega
      rw [List.take_succ_eq_append_getElem (by simpa using ho), e0, e1]
      simp
    rw [ee] at h2
    exact h2
/-- an array of one's own, whole, as a slice of one's own -/
theorem St.valsRow {n : Nat} (H : St B w0 w (AVals b t vs :: Ps)) (hn : vs.length = n) (hm : n ≤ maxLen) : St B w0 w (ARow t 1 (.slice (some ⟨b, 0, none⟩) n n) n vs :: Ps) := by
  obtain ⟨S, hS, _, put⟩ := H.at 0 rfl
  refine put S w (ARow t 1 (.slice (some ⟨b, 0, none⟩) n n) n vs) ⟨⟨by rw [hn]; omega, .inr ⟨b, n, vs.toArray, rfl, Nat.zero_le _, hS.1, Nat.le_refl _, hm, by simp [hn], by simp [← hn]⟩⟩, fun k => ?_⟩ (Step.refl S w)
  rw [hS.2 k]
  simp [Value.ownBlock, eq_comm]
end
end Go.Own
namespace Go.PagM
/-- the page as it stands ahead of the bits -/
def raw (c d : UInt8) : Bs := c :: d :: (List.replicate 125 0 ++ [90])
theorem raw_len (c d : UInt8) : (raw c d).length = 128 := by simp [raw]
theorem raw_set (c d e : UInt8) : (raw c d).set 0 e = raw e d := rfl
theorem raw_laid (f : Frm) (h : f.data.length ≤ 125) : (raw (UInt8.ofNat (headN f)) (UInt8.ofNat f.data.length)).take 2 ++ f.data ++ (raw (UInt8.ofNat (headN f)) (UInt8.ofNat f.data.length)).drop (2 + f.data.length) = laid f := by
  unfold raw laid
  rw [Nat.add_comm 2, List.drop_succ_cons, List.drop_succ_cons, List.drop_append_of_le_length (by simp; omega), List.drop_replicate]
  rfl
end Go.PagM
namespace Go.Proofs.Ytmdphcebmgcdbaa
open Go.RowKit Go.Own
namespace Pag
open Go.PagM Byt

theorem info_page (l : Bs) (h : l.length = 128) : (Try.prog.info? 156).map (·.size) = some (l.map byteV).toArray.size := by
  have e : (l.map byteV).toArray.size = 128 := by simp [h]
  have h0 : (Try.prog.info? 156).map (fun i => i.size) = some 128 := by kernel_rfl
  rw [e]
  exact h0
theorem info_pageL (l : Bs) (h : l.length = 128) : (Try.prog.info? 156).map (·.size) = some (l.map byteV).length := by
  have h0 : (Try.prog.info? 156).map (fun i => i.size) = some 128 := by kernel_rfl
  rw [List.length_map, h]
  exact h0
theorem zero_page : (Try.prog.info? 156).bind (·.zero) = some (.agg ((List.replicate 128 (0 : UInt8)).map byteV).toArray) := by kernel_rfl
theorem built_raw (x y : Int) : Try.prog.built 156 [(0, .int .u8 x), (1, .int .u8 y), (127, .int .u8 90)] = some (.int .u8 x :: .int .u8 y :: ((List.replicate 125 (0 : UInt8) ++ [90]).map byteV)).toArray := by kernel_rfl
set_option maxRecDepth 100000 in
theorem or64 : ∀ k : Nat, k < 64 → bits .or .u8 (k : Int) 64 = ((k + 64 : Nat) : Int) := by decide
set_option maxRecDepth 100000 in
theorem or128 : ∀ k : Nat, k < 128 → bits .or .u8 (k : Int) 128 = ((k + 128 : Nat) : Int) := by decide
set_option maxRecDepth 100000 in
theorem and63 : ∀ k : Nat, k < 256 → bits .and .u8 (k : Int) 63 = ((k % 64 : Nat) : Int) := by decide
set_option maxRecDepth 100000 in
theorem and64 : ∀ k : Nat, k < 256 → (bits .and .u8 (k : Int) 64 != 0) = decide (k / 64 % 2 = 1) := by decide
set_option maxRecDepth 100000 in
theorem and128 : ∀ k : Nat, k < 256 → (bits .and .u8 (k : Int) 128 != 0) = decide (k / 128 = 1) := by decide
/-- copy onto a part of an array of one's own -/
theorem wpList_a8_copy {ops : Array Oper} {rest : List Oper} {o : Oper} {a : Act} {w : World} {Q : Exit → Act → World → Prop} {B : Nat} {w0 : World} {Ps : List Asn} (hgd : o.guard = none) (d s : Operand)
    (ho : o.op = .call { callee := .builtin .copy, args := #[d, s], argTypes := #[56, 56] }) (H : Own.St B w0 w Ps) (i : Nat) {b k nn cc : Nat} {t : TypeId} {l : List UInt8} (hi : Ps[i]? = some (A8 b t l)) (hd : a.eval d = .slice (some ⟨b, k, none⟩) nn cc)
    (bo : Option Addr) (m c : Nat) (news : List UInt8) (hx : a.eval s = .slice bo m c) (hl : news.length = m) (hmn : m ≤ nn) (hkl : k + nn ≤ l.length) (hno : bo = none → m = 0)
    (hc : ∀ a, bo = some a → ∀ j u, (news.map byteV)[j]? = some u → w.cell? (a.add j) = some u)
    (h : ∀ w', Own.St B w0 w' (Ps.set i (A8 b t (l.take k ++ news ++ l.drop (k + m)))) → wpList Try.prog ops Q rest (a.put o.dst (goInt m)) w') : wpList Try.prog ops Q (o :: rest) a w := by
  refine wpList_plain hgd fun K hK => ?_
  have hset := Own.St.setMid i (news.map byteV) k w Ps (l.map byteV) H hi (by simp; omega)
  have e : AVals b t ((l.map byteV).take k ++ news.map byteV ++ (l.map byteV).drop (k + (news.map byteV).length)) = A8 b t (l.take k ++ news ++ l.drop (k + m)) := by
    unfold A8
    rw [List.map_append, List.map_append, List.map_take, List.map_drop, List.length_map, hl]
  rw [e] at hset
  have hcells : ∀ j, j < (news.map byteV).length → (w.cell? ⟨b, k + j, none⟩).isSome = true ∧ w.frozen? ⟨b, k + j, none⟩ = false := by
    intro j hj
    rw [List.length_map] at hj
    obtain ⟨h1, h2⟩ := A8.cell H i hi (k + j) (by omega)
    exact ⟨by rw [h1]; rfl, h2⟩
  have hrun : (Builtin.copy_ #[56, 56] o.type #[.slice (some ⟨b, k, none⟩) nn cc, .slice bo m c]).run Try.prog w = .ok (goInt m) (w.setCells b k (news.map byteV)) := by
    cases bo with
    | none =>
      have hm := hno rfl
      subst hm
      obtain rfl : news = [] := List.eq_nil_of_length_eq_zero hl
      exact run_copy_none (P := Try.prog) w 56 56 o.type 5 _ none nn cc 0 c Try.underlying56 info8 (Nat.min_eq_left (Nat.zero_le _))
    | some ad =>
      have := run_copy_cells (P := Try.prog) w 56 56 o.type 5 b k nn cc ad m c (news.map byteV) Try.underlying56 info8 (by rw [List.length_map, hl]; exact (Nat.min_eq_left hmn).symm) (hc ad rfl) (fun j hj => (hcells j hj).1) (fun j hj => (hcells j hj).2) (byteV_one _)
      rw [List.length_map, hl] at this
      exact this
  unfold Oper.wp
  simp [execOp, ho, resolve, invoke, builtin, hd, hx, hrun, Result.andThen]
  exact hK _ _ (h _ hset)

set_option maxRecDepth 10000 in
set_option maxHeartbeats 8000000 in
theorem lay_any (f : Frm) (ao : Option Addr) (n cap : Nat) (w : World) (hg : Given w ao n cap f.data) (hk : f.kind.toNat ≤ 63) (hn : n ≤ 125) :
    Calls Try.prog 70 #[frV f.kind.toNat f.first f.last (.slice ao n cap)] w fun e w' => e = .returned (.agg ((laid f).map byteV).toArray) ∧ Below w.heap.size w w' := by
  have H := Own.St.start w
  have hdl := hg.size
  have hrl := raw_laid f (by rw [hdl]; exact hn)
  have hhl := headN_lt hk
  obtain ⟨X, hX⟩ : ∃ X, X = laid f := ⟨_, rfl⟩
  rw [← hX] at hrl ⊢
  have hXl : X.length = 128 := by rw [hX]; exact laid_len f (by rw [hdl]; exact hn)
  obtain ⟨h, hh⟩ : ∃ h, h = UInt8.ofNat (headN f) := ⟨_, rfl⟩
  have hhn : h.toNat = headN f := by rw [hh]; exact ofNat_toNat _ hhl
  rw [← hh] at hrl
  obtain ⟨d, hd⟩ : ∃ d, d = UInt8.ofNat f.data.length := ⟨_, rfl⟩
  have hdn : (n : Int) = (d.toNat : Int) := by rw [hd, ofNat_toNat _ (by omega), hdl]
  rw [← hd, hdl] at hrl
  unfold headN at hhn
  obtain ⟨kind, first, last, data⟩ := f
  simp only at hg hk hdl hrl hhn ⊢
  obtain ⟨k, hkk⟩ : ∃ k, k = kind.toNat := ⟨_, rfl⟩
  rw [← hkk] at hk hhn ⊢
  have HD := Lib.hid hdl
  have HRL := Lib.hid hrl
  have HXL := Lib.hid hXl
  have HG := Lib.hid hg
  obtain ⟨z, hz⟩ : ∃ z, z = ((List.replicate 128 (0 : UInt8)).map byteV).toArray := ⟨_, rfl⟩
  have ZP : Hid ((Try.prog.info? 156).bind (·.zero) = some (.agg z)) := by rw [hz]; exact zero_page
  obtain ⟨br, hbr⟩ : ∃ b, b = (w.alloc (.cells (frC k first last (.slice ao n cap)) 140)).heap.size := ⟨_, rfl⟩
  obtain ⟨W2, hW2⟩ : ∃ W, W = (w.alloc (.cells (frC k first last (.slice ao n cap)) 140)).alloc (.cells z 156) := ⟨_, rfl⟩
  obtain ⟨bp, hbp⟩ : ∃ b, b = W2.heap.size := ⟨_, rfl⟩
  obtain ⟨W3, hW3⟩ : ∃ W, W = W2.alloc (.cells z 156) := ⟨_, rfl⟩
  have hbox := ((H.boxV 140 (frC k first last (.slice ao n cap)).toList))
  have hb1 := A8.box hbox 156 (List.replicate 128 0)
  rw [← hz] at hb1
  simp only at hb1
  rw [← hbr, ← hW2] at hb1
  have hb2 := A8.box hb1 156 (List.replicate 128 0)
  rw [← hz, ← hbp, ← hW3] at hb2
  obtain ⟨d0, hd0⟩ : ∃ d0, d0 = raw kind d := ⟨_, rfl⟩
  have hdl0 : d0.length = 128 := by rw [hd0]; exact raw_len _ _
  have TH := Lib.hid (A8.there hb2 0 rfl d0 (by rw [hdl0]; rfl))
  have h4 := A8.setAll hb2 0 rfl d0 (by rw [hdl0]; rfl)
  simp only [List.set_cons_zero] at h4
  obtain ⟨W4, hW4⟩ : ∃ W, W = W3.setCells bp 0 (d0.map byteV).toArray.toList := ⟨_, rfl⟩
  rw [← hW4] at h4
  have HW2 := Lib.hid hW2
  have HW3 := Lib.hid hW3
  have HW4 := Lib.hid hW4
  have HBR := Lib.hid hbr
  have HBP := Lib.hid hbp
  have H4 := Lib.hid h4
  have IB := Lib.hid (info_page d0 hdl0)
  have OB := Lib.hid (one8 d0)
  have BE : Hid (Try.prog.built 156 [(0, .int .u8 (k : Int)), (1, .int .u8 (d.toNat : Int)), (127, .int .u8 90)] = some (d0.map byteV).toArray) := by
    rw [hd0, hkk]; exact built_raw _ _
  have q0 := (hb2.cellV 2 rfl 0 rfl).1
  have q3 := (hb2.cellV 2 rfl 3 rfl).1
  have q02 := (hb1.cellV 1 rfl 0 rfl).1
  have q32 := (hb1.cellV 1 rfl 3 rfl).1
  have IX := Lib.hid (info_page X hXl)
  have OX := Lib.hid (one8 X)
  have HD0 := Lib.hid hd0
  have HDL := Lib.hid hdl0
  have HKK := Lib.hid hkk
  clear hz hW4 hW2 hW3 hbr hbp hbox hb2 hb1 hd0 hdl0 h4 hkk hd hdl hrl hXl hg H hh hX
  cases first <;> cases last
  · simp only [if_false, Bool.false_eq_true, Nat.add_zero] at hhn
    have p1 := (H4.out.cellV 2 rfl 1 rfl).1
    have c0 := A8.cell H4.out 0 rfl 0 (by rw [HDL.out]; decide)
    rw [HD0.out, show ((raw kind d).getD 0 0).toNat = k from HKK.out.symm] at c0
    have p2 := (H4.out.cellV 2 rfl 2 rfl).1
    have hfin : kind = h := UInt8.toNat_inj.1 (by have := HKK.out; omega)
    subst hfin
    have H7 := H4.out
    simp only [HD0.out] at H7
    have H7 := Lib.hid H7
    clear hhn 
    go_enter Try.func70, Try.ntmps70
    go_wp2_with (first
      | (refine Own.wpList_allocZ rfl 156 rfl z ZP.out ?_; rw [← HBR.out, ← HW2.out])
      | (refine Own.wpList_allocZ rfl 156 rfl z ZP.out ?_; rw [← HBP.out, ← HW3.out])
      | (refine Own.wpList_built rfl 156 #[(0, .tmp 5), (1, .tmp 9), (127, .const (.int .u8 90))] rfl (d0.map byteV).toArray ?_ ?_; · (simp only [List.map_toArray, List.map_cons, List.map_nil, List.toList_toArray]; exact BE.out))
      | (refine wpList_store_mid rfl 156 (.tmp 3) (.tmp 10) rfl bp 0 (d0.map byteV).toArray rfl rfl TH.out IB.out OB.out ?_; rw [← HW4.out]))
    generalize W4 = W7 at H7 ⊢
    have GW := HG.out.later H7.out.below
    have P3 : Hid (∀ wx, Below W7.heap.size W7 wx → wx.cell? ⟨w.heap.size, 3, none⟩ = some (.slice ao n cap)) := fun wx hwx => ((H7.out.later hwx).cellV 2 rfl 3 rfl).1
    refine wp_laxW_list 3 (by kernel_rfl) (by kernel_rfl) (by kernel_rfl) (by kernel_rfl) (by kernel_rfl) ?_
    simp only [List.take_succ_cons, List.take_zero, List.drop_succ_cons, List.drop_zero]
    refine wpL_run1 (x := .tmp 3) (.pointer (some ⟨bp, 0, none⟩)) (.slice (some ⟨bp, 2, none⟩) 126 126) (by kernel_rfl) (by kernel_rfl) (by kernel_rfl) (by kernel_rfl) (by kernel_rfl) (fun wx ρ hwx h0 hc => by simp [go_sem, h0, hc]) ?_
    refine wpL_run1 (x := .tmp 1) (.pointer (some ⟨w.heap.size, 0, none⟩)) (.pointer (some ⟨w.heap.size, 3, none⟩)) (by kernel_rfl) (by kernel_rfl) (by kernel_rfl) (by kernel_rfl) (by kernel_rfl) (fun wx ρ hwx h0 hc => by simp [go_sem, h0]) ?_
    refine wpL_run1 (x := .tmp 24) (.pointer (some ⟨w.heap.size, 3, none⟩)) (.slice ao n cap) (by kernel_rfl) (by kernel_rfl) (by kernel_rfl) (by kernel_rfl) (by kernel_rfl) (fun wx ρ hwx h0 hc => by simp [go_sem, h0, P3.out wx hwx]) ?_
    refine wpL_end (by kernel_rfl) (fun w8 hw8 => ?_)
    simp only [FinL, setL, List.set_cons_zero, List.set_cons_succ]
    intro _
    have H8 := Lib.hid (H7.out.later hw8)
    have G8 := GW.later hw8
    have HC := Lib.hid (vcells G8.view)
    have HNO := Lib.hid (given_nil G8)
    clear hw8 P3 H7 G8 GW
    go_wp2_with (first
      | (refine wpList_a8_copy rfl (.tmp 23) (.tmp 25) rfl H8.out 0 (l := raw kind d) rfl rfl ao n cap data rfl HD.out (by omega) (by rw [raw_len]; decide) (fun h => (HNO.out h).1) HC.out ?_; intro w9 h9; rw [HRL.out] at h9; simp only [List.set_cons_zero] at h9; have ROW := Lib.hid (A8.row h9 0 rfl); have TH9 := Lib.hid (A8.there h9 1 rfl X (by rw [HXL.out]; rfl)); have LAST := Lib.hid (A8.setAll h9 1 rfl X (by rw [HXL.out]; rfl)); clear h9)
      | (refine wpList_load_row rfl 156 (.tmp 3) rfl bp rfl 156 _ (0, 0) _ ROW.out Try.underlying156 rfl IX.out ?_)
      | (refine wpList_store_mid rfl 156 (.tmp 2) (.tmp 27) rfl br 0 (X.map byteV).toArray rfl rfl TH9.out IX.out OX.out ?_))
    have END := Lib.hid (A8.row LAST.out 1 rfl)
    refine bodyPost_ret (results_cell_row rfl _ _ br 156 _ (0, 0) _ rfl END.out Try.underlying156 rfl IX.out) rfl ?_
    exact ⟨rfl, LAST.out.below⟩
  · simp only [if_true, if_false, Bool.false_eq_true, Nat.add_zero] at hhn
    have p1 := (H4.out.cellV 2 rfl 1 rfl).1
    have c0 := A8.cell H4.out 0 rfl 0 (by rw [HDL.out]; decide)
    rw [HD0.out, show ((raw kind d).getD 0 0).toNat = k from HKK.out.symm] at c0
    have p2 := (H4.out.cellV 2 rfl 2 rfl).1
    obtain ⟨u2, hu2⟩ : ∃ u, u = UInt8.ofNat (k + 128) := ⟨_, rfl⟩
    have hu2n : u2.toNat = k + 128 := by rw [hu2]; exact ofNat_toNat _ (by omega)
    have e128 : bits .or .u8 (k : Int) 128 = (u2.toNat : Int) := by rw [or128 (k) (by omega), hu2n]
    have H6 := Lib.hid (A8.store H4.out 0 rfl 0 u2)
    have hfin : u2 = h := UInt8.toNat_inj.1 (by have := HKK.out; omega)
    subst hfin
    have H7 := H6.out
    simp only [List.set_cons_zero, HD0.out, raw_set] at H7
    have H7 := Lib.hid H7
    clear hhn hu2 hu2n H6
    go_enter Try.func70, Try.ntmps70
    go_wp2_with (first
      | (refine Own.wpList_allocZ rfl 156 rfl z ZP.out ?_; rw [← HBR.out, ← HW2.out])
      | (refine Own.wpList_allocZ rfl 156 rfl z ZP.out ?_; rw [← HBP.out, ← HW3.out])
      | (refine Own.wpList_built rfl 156 #[(0, .tmp 5), (1, .tmp 9), (127, .const (.int .u8 90))] rfl (d0.map byteV).toArray ?_ ?_; · (simp only [List.map_toArray, List.map_cons, List.map_nil, List.toList_toArray]; exact BE.out))
      | (refine wpList_store_mid rfl 156 (.tmp 3) (.tmp 10) rfl bp 0 (d0.map byteV).toArray rfl rfl TH.out IB.out OB.out ?_; rw [← HW4.out]))
    have H7 := H7.out
    generalize (W4.setCell ⟨bp, 0, none⟩ (.int .u8 (u2.toNat : Int))) = W7 at H7 ⊢
    have H7 := Lib.hid H7
    have GW := HG.out.later H7.out.below
    have P3 : Hid (∀ wx, Below W7.heap.size W7 wx → wx.cell? ⟨w.heap.size, 3, none⟩ = some (.slice ao n cap)) := fun wx hwx => ((H7.out.later hwx).cellV 2 rfl 3 rfl).1
    refine wp_laxW_list 3 (by kernel_rfl) (by kernel_rfl) (by kernel_rfl) (by kernel_rfl) (by kernel_rfl) ?_
    simp only [List.take_succ_cons, List.take_zero, List.drop_succ_cons, List.drop_zero]
    refine wpL_run1 (x := .tmp 3) (.pointer (some ⟨bp, 0, none⟩)) (.slice (some ⟨bp, 2, none⟩) 126 126) (by kernel_rfl) (by kernel_rfl) (by kernel_rfl) (by kernel_rfl) (by kernel_rfl) (fun wx ρ hwx h0 hc => by simp [go_sem, h0, hc]) ?_
    refine wpL_run1 (x := .tmp 1) (.pointer (some ⟨w.heap.size, 0, none⟩)) (.pointer (some ⟨w.heap.size, 3, none⟩)) (by kernel_rfl) (by kernel_rfl) (by kernel_rfl) (by kernel_rfl) (by kernel_rfl) (fun wx ρ hwx h0 hc => by simp [go_sem, h0]) ?_
    refine wpL_run1 (x := .tmp 24) (.pointer (some ⟨w.heap.size, 3, none⟩)) (.slice ao n cap) (by kernel_rfl) (by kernel_rfl) (by kernel_rfl) (by kernel_rfl) (by kernel_rfl) (fun wx ρ hwx h0 hc => by simp [go_sem, h0, P3.out wx hwx]) ?_
    refine wpL_end (by kernel_rfl) (fun w8 hw8 => ?_)
    simp only [FinL, setL, List.set_cons_zero, List.set_cons_succ]
    intro _
    have H8 := Lib.hid (H7.out.later hw8)
    have G8 := GW.later hw8
    have HC := Lib.hid (vcells G8.view)
    have HNO := Lib.hid (given_nil G8)
    clear hw8 P3 H7 G8 GW
    go_wp2_with (first
      | (refine wpList_a8_copy rfl (.tmp 23) (.tmp 25) rfl H8.out 0 (l := raw u2 d) rfl rfl ao n cap data rfl HD.out (by omega) (by rw [raw_len]; decide) (fun h => (HNO.out h).1) HC.out ?_; intro w9 h9; rw [HRL.out] at h9; simp only [List.set_cons_zero] at h9; have ROW := Lib.hid (A8.row h9 0 rfl); have TH9 := Lib.hid (A8.there h9 1 rfl X (by rw [HXL.out]; rfl)); have LAST := Lib.hid (A8.setAll h9 1 rfl X (by rw [HXL.out]; rfl)); clear h9)
      | (refine wpList_load_row rfl 156 (.tmp 3) rfl bp rfl 156 _ (0, 0) _ ROW.out Try.underlying156 rfl IX.out ?_)
      | (refine wpList_store_mid rfl 156 (.tmp 2) (.tmp 27) rfl br 0 (X.map byteV).toArray rfl rfl TH9.out IX.out OX.out ?_))
    have END := Lib.hid (A8.row LAST.out 1 rfl)
    refine bodyPost_ret (results_cell_row rfl _ _ br 156 _ (0, 0) _ rfl END.out Try.underlying156 rfl IX.out) rfl ?_
    exact ⟨rfl, LAST.out.below⟩
  · simp only [if_true, if_false, Bool.false_eq_true, Nat.add_zero] at hhn
    have p1 := (H4.out.cellV 2 rfl 1 rfl).1
    have c0 := A8.cell H4.out 0 rfl 0 (by rw [HDL.out]; decide)
    rw [HD0.out, show ((raw kind d).getD 0 0).toNat = k from HKK.out.symm] at c0
    obtain ⟨u1, hu1⟩ : ∃ u, u = UInt8.ofNat (k + 64) := ⟨_, rfl⟩
    have hu1n : u1.toNat = k + 64 := by rw [hu1]; exact ofNat_toNat _ (by omega)
    have e64 : bits .or .u8 (k : Int) 64 = (u1.toNat : Int) := by rw [or64 k (by omega), hu1n]
    have H5 := Lib.hid (A8.store H4.out 0 rfl 0 u1)
    have g0 := A8.cell H5.out 0 rfl 0 (by rw [List.length_set, HDL.out]; decide)
    rw [HD0.out, raw_set, show ((raw u1 d).getD 0 0).toNat = u1.toNat from rfl] at g0
    have p2 := (H5.out.cellV 2 rfl 2 rfl).1
    have hfin : u1 = h := UInt8.toNat_inj.1 (by have := HKK.out; omega)
    subst hfin
    have H7 := H5.out
    simp only [List.set_cons_zero, HD0.out, raw_set] at H7
    have H7 := Lib.hid H7
    clear hhn hu1 hu1n H5
    go_enter Try.func70, Try.ntmps70
    go_wp2_with (first
      | (refine Own.wpList_allocZ rfl 156 rfl z ZP.out ?_; rw [← HBR.out, ← HW2.out])
      | (refine Own.wpList_allocZ rfl 156 rfl z ZP.out ?_; rw [← HBP.out, ← HW3.out])
      | (refine Own.wpList_built rfl 156 #[(0, .tmp 5), (1, .tmp 9), (127, .const (.int .u8 90))] rfl (d0.map byteV).toArray ?_ ?_; · (simp only [List.map_toArray, List.map_cons, List.map_nil, List.toList_toArray]; exact BE.out))
      | (refine wpList_store_mid rfl 156 (.tmp 3) (.tmp 10) rfl bp 0 (d0.map byteV).toArray rfl rfl TH.out IB.out OB.out ?_; rw [← HW4.out]))
    have H7 := H7.out
    generalize (W4.setCell ⟨bp, 0, none⟩ (.int .u8 (u1.toNat : Int))) = W7 at H7 ⊢
    have H7 := Lib.hid H7
    have GW := HG.out.later H7.out.below
    have P3 : Hid (∀ wx, Below W7.heap.size W7 wx → wx.cell? ⟨w.heap.size, 3, none⟩ = some (.slice ao n cap)) := fun wx hwx => ((H7.out.later hwx).cellV 2 rfl 3 rfl).1
    refine wp_laxW_list 3 (by kernel_rfl) (by kernel_rfl) (by kernel_rfl) (by kernel_rfl) (by kernel_rfl) ?_
    simp only [List.take_succ_cons, List.take_zero, List.drop_succ_cons, List.drop_zero]
    refine wpL_run1 (x := .tmp 3) (.pointer (some ⟨bp, 0, none⟩)) (.slice (some ⟨bp, 2, none⟩) 126 126) (by kernel_rfl) (by kernel_rfl) (by kernel_rfl) (by kernel_rfl) (by kernel_rfl) (fun wx ρ hwx h0 hc => by simp [go_sem, h0, hc]) ?_
    refine wpL_run1 (x := .tmp 1) (.pointer (some ⟨w.heap.size, 0, none⟩)) (.pointer (some ⟨w.heap.size, 3, none⟩)) (by kernel_rfl) (by kernel_rfl) (by kernel_rfl) (by kernel_rfl) (by kernel_rfl) (fun wx ρ hwx h0 hc => by simp [go_sem, h0]) ?_
    refine wpL_run1 (x := .tmp 24) (.pointer (some ⟨w.heap.size, 3, none⟩)) (.slice ao n cap) (by kernel_rfl) (by kernel_rfl) (by kernel_rfl) (by kernel_rfl) (by kernel_rfl) (fun wx ρ hwx h0 hc => by simp [go_sem, h0, P3.out wx hwx]) ?_
    refine wpL_end (by kernel_rfl) (fun w8 hw8 => ?_)
    simp only [FinL, setL, List.set_cons_zero, List.set_cons_succ]
    intro _
    have H8 := Lib.hid (H7.out.later hw8)
    have G8 := GW.later hw8
    have HC := Lib.hid (vcells G8.view)
    have HNO := Lib.hid (given_nil G8)
    clear hw8 P3 H7 G8 GW
    go_wp2_with (first
      | (refine wpList_a8_copy rfl (.tmp 23) (.tmp 25) rfl H8.out 0 (l := raw u1 d) rfl rfl ao n cap data rfl HD.out (by omega) (by rw [raw_len]; decide) (fun h => (HNO.out h).1) HC.out ?_; intro w9 h9; rw [HRL.out] at h9; simp only [List.set_cons_zero] at h9; have ROW := Lib.hid (A8.row h9 0 rfl); have TH9 := Lib.hid (A8.there h9 1 rfl X (by rw [HXL.out]; rfl)); have LAST := Lib.hid (A8.setAll h9 1 rfl X (by rw [HXL.out]; rfl)); clear h9)
      | (refine wpList_load_row rfl 156 (.tmp 3) rfl bp rfl 156 _ (0, 0) _ ROW.out Try.underlying156 rfl IX.out ?_)
      | (refine wpList_store_mid rfl 156 (.tmp 2) (.tmp 27) rfl br 0 (X.map byteV).toArray rfl rfl TH9.out IX.out OX.out ?_))
    have END := Lib.hid (A8.row LAST.out 1 rfl)
    refine bodyPost_ret (results_cell_row rfl _ _ br 156 _ (0, 0) _ rfl END.out Try.underlying156 rfl IX.out) rfl ?_
    exact ⟨rfl, LAST.out.below⟩
  · simp only [if_true] at hhn
    have p1 := (H4.out.cellV 2 rfl 1 rfl).1
    have c0 := A8.cell H4.out 0 rfl 0 (by rw [HDL.out]; decide)
    rw [HD0.out, show ((raw kind d).getD 0 0).toNat = k from HKK.out.symm] at c0
    obtain ⟨u1, hu1⟩ : ∃ u, u = UInt8.ofNat (k + 64) := ⟨_, rfl⟩
    have hu1n : u1.toNat = k + 64 := by rw [hu1]; exact ofNat_toNat _ (by omega)
    have e64 : bits .or .u8 (k : Int) 64 = (u1.toNat : Int) := by rw [or64 k (by omega), hu1n]
    have H5 := Lib.hid (A8.store H4.out 0 rfl 0 u1)
    have g0 := A8.cell H5.out 0 rfl 0 (by rw [List.length_set, HDL.out]; decide)
    rw [HD0.out, raw_set, show ((raw u1 d).getD 0 0).toNat = u1.toNat from rfl] at g0
    have p2 := (H5.out.cellV 2 rfl 2 rfl).1
    obtain ⟨u2, hu2⟩ : ∃ u, u = UInt8.ofNat (u1.toNat + 128) := ⟨_, rfl⟩
    have hu2n : u2.toNat = u1.toNat + 128 := by rw [hu2]; exact ofNat_toNat _ (by omega)
    have e128 : bits .or .u8 (u1.toNat : Int) 128 = (u2.toNat : Int) := by rw [or128 (u1.toNat) (by omega), hu2n]
    have H6 := Lib.hid (A8.store H5.out 0 rfl 0 u2)
    have hfin : u2 = h := UInt8.toNat_inj.1 (by have := HKK.out; omega)
    subst hfin
    have H7 := H6.out
    simp only [List.set_cons_zero, HD0.out, raw_set] at H7
    have H7 := Lib.hid H7
    clear hhn hu1 hu1n H5 hu2 hu2n H6
    go_enter Try.func70, Try.ntmps70
    go_wp2_with (first
      | (refine Own.wpList_allocZ rfl 156 rfl z ZP.out ?_; rw [← HBR.out, ← HW2.out])
      | (refine Own.wpList_allocZ rfl 156 rfl z ZP.out ?_; rw [← HBP.out, ← HW3.out])
      | (refine Own.wpList_built rfl 156 #[(0, .tmp 5), (1, .tmp 9), (127, .const (.int .u8 90))] rfl (d0.map byteV).toArray ?_ ?_; · (simp only [List.map_toArray, List.map_cons, List.map_nil, List.toList_toArray]; exact BE.out))
      | (refine wpList_store_mid rfl 156 (.tmp 3) (.tmp 10) rfl bp 0 (d0.map byteV).toArray rfl rfl TH.out IB.out OB.out ?_; rw [← HW4.out]))
    have H7 := H7.out
    generalize ((W4.setCell ⟨bp, 0, none⟩ (.int .u8 (u1.toNat : Int))).setCell ⟨bp, 0, none⟩ (.int .u8 (u2.toNat : Int))) = W7 at H7 ⊢
    have H7 := Lib.hid H7
    have GW := HG.out.later H7.out.below
    have P3 : Hid (∀ wx, Below W7.heap.size W7 wx → wx.cell? ⟨w.heap.size, 3, none⟩ = some (.slice ao n cap)) := fun wx hwx => ((H7.out.later hwx).cellV 2 rfl 3 rfl).1
    refine wp_laxW_list 3 (by kernel_rfl) (by kernel_rfl) (by kernel_rfl) (by kernel_rfl) (by kernel_rfl) ?_
    simp only [List.take_succ_cons, List.take_zero, List.drop_succ_cons, List.drop_zero]
    refine wpL_run1 (x := .tmp 3) (.pointer (some ⟨bp, 0, none⟩)) (.slice (some ⟨bp, 2, none⟩) 126 126) (by kernel_rfl) (by kernel_rfl) (by kernel_rfl) (by kernel_rfl) (by kernel_rfl) (fun wx ρ hwx h0 hc => by simp [go_sem, h0, hc]) ?_
    refine wpL_run1 (x := .tmp 1) (.pointer (some ⟨w.heap.size, 0, none⟩)) (.pointer (some ⟨w.heap.size, 3, none⟩)) (by kernel_rfl) (by kernel_rfl) (by kernel_rfl) (by kernel_rfl) (by kernel_rfl) (fun wx ρ hwx h0 hc => by simp [go_sem, h0]) ?_
    refine wpL_run1 (x := .tmp 24) (.pointer (some ⟨w.heap.size, 3, none⟩)) (.slice ao n cap) (by kernel_rfl) (by kernel_rfl) (by kernel_rfl) (by kernel_rfl) (by kernel_rfl) (fun wx ρ hwx h0 hc => by simp [go_sem, h0, P3.out wx hwx]) ?_
    refine wpL_end (by kernel_rfl) (fun w8 hw8 => ?_)
    simp only [FinL, setL, List.set_cons_zero, List.set_cons_succ]
    intro _
    have H8 := Lib.hid (H7.out.later hw8)
    have G8 := GW.later hw8
    have HC := Lib.hid (vcells G8.view)
    have HNO := Lib.hid (given_nil G8)
    clear hw8 P3 H7 G8 GW
    go_wp2_with (first
      | (refine wpList_a8_copy rfl (.tmp 23) (.tmp 25) rfl H8.out 0 (l := raw u2 d) rfl rfl ao n cap data rfl HD.out (by omega) (by rw [raw_len]; decide) (fun h => (HNO.out h).1) HC.out ?_; intro w9 h9; rw [HRL.out] at h9; simp only [List.set_cons_zero] at h9; have ROW := Lib.hid (A8.row h9 0 rfl); have TH9 := Lib.hid (A8.there h9 1 rfl X (by rw [HXL.out]; rfl)); have LAST := Lib.hid (A8.setAll h9 1 rfl X (by rw [HXL.out]; rfl)); clear h9)
      | (refine wpList_load_row rfl 156 (.tmp 3) rfl bp rfl 156 _ (0, 0) _ ROW.out Try.underlying156 rfl IX.out ?_)
      | (refine wpList_store_mid rfl 156 (.tmp 2) (.tmp 27) rfl br 0 (X.map byteV).toArray rfl rfl TH9.out IX.out OX.out ?_))
    have END := Lib.hid (A8.row LAST.out 1 rfl)
    refine bodyPost_ret (results_cell_row rfl _ _ br 156 _ (0, 0) _ rfl END.out Try.underlying156 rfl IX.out) rfl ?_
    exact ⟨rfl, LAST.out.below⟩
end Pag
end Go.Proofs.Ytmdphcebmgcdbaa

end
section
namespace Go.Proofs.Ytmdphcebmgcdbaa
open Go.RowKit Go.Own
namespace Pag
open Go.PagM Byt
theorem manyByte : Many Try.prog 56 5 1 1 := ⟨Try.underlying56, by kernel_rfl, by decide⟩
set_option maxHeartbeats 800000 in
/-- bytes.Clone of cells that lie anywhere -/
theorem cloneBytes {B : Nat} {w0 w : World} {Ps : List Asn} (H : Own.St B w0 w Ps) (a : Addr) (n cap : Nat) (l : PagM.Bs) (hl : l.length = n) (hc : ∀ j u, (l.map byteV)[j]? = some u → w.cell? (a.add j) = some u) (hb : n ≤ 100000) :
    Calls Try.prog 75 #[.slice (some a) n cap] w fun e w' => ∃ a' c', e = .returned (.slice a' n c') ∧ Own.St B w0 w' (AB a' n c' l :: Ps) := by
  have H1 := Lib.hid (H.emptyRow 5 1)
  have HL : Hid ((l.map byteV).length = n * 1) := by show (l.map byteV).length = n * 1; simp [hl]
  have HN : Hid (∀ a', some a = some a' → ∀ j u, (l.map byteV)[j]? = some u → (w.alloc (.cells #[] 5)).cell? (a'.add j) = some u) := by
    intro a' ha j u hu
    cases ha
    exact cell_alloc (hc j u hu) _
  clear H hc
  have hq := eqlNil (P := Try.prog) w 56 _ (some a) n cap Try.underlying56
  simp only [Option.isNone_some] at hq
  go_enter Try.func75, Try.ntmps75
  go_wp2_with (refine wpList_many_append manyByte rfl (.tmp 5) (.tmp 6) rfl H1.out 0 rfl rfl (some a) n cap (l.map byteV) rfl (by intro h; cases h) HL.out HN.out (byteV_one _) (by omega) (by decide) ?_; intro a2 c2 w2 h2; simp only [List.set_cons_zero, Nat.zero_add, List.nil_append] at h2 ⊢; have H2 := Lib.hid h2; clear h2)
  go_ret
  exact ⟨_, _, rfl, H2.out⟩
theorem range_box {B : Nat} {w0 w : World} {Ps : List Asn} {b : Nat} {t : TypeId} {cs : List Value} (H : Own.St B w0 w Ps) (i : Nat) (hi : Ps[i]? = some (AVals b t cs)) : w.rangeAt b 0 cs := fun j v hv => by
  rw [Nat.zero_add]
  exact (H.cellV i hi j hv).1
theorem load_pageE (l : PagM.Bs) (hl : l.length = 128) {o : Oper} {x : Tmp} (ho : o.op = .load 156 (.tmp x)) {b k : Nat} (ρ : Operand → Value) {w : World} (hr : w.rangeAt b k (l.map byteV)) (h0 : ρ (.tmp x) = .pointer (some ⟨b, k, none⟩)) : (execOp ρ o).run Try.prog w = .ok (.value (.agg (l.map byteV).toArray)) w := by
  have := run_loadAt_mid (P := Try.prog) w b k 156 (l.map byteV) _ hr Try.underlying156 rfl (info_pageL l hl)
  unfold execOp
  simp only [ho, h0, Sem.run_bind, this, Result.andThen_ok, Sem.run_pure]
theorem info_frameL (cs : List Value) (h : cs.length = 4) : (Try.prog.info? 140).map (·.size) = some cs.length := by
  have h0 : (Try.prog.info? 140).map (fun i => i.size) = some 4 := by kernel_rfl
  rw [h]
  exact h0
theorem load_frameE (cs : List Value) (hl : cs.length = 4) {o : Oper} {x : Tmp} (ho : o.op = .load 140 (.tmp x)) {b k : Nat} (ρ : Operand → Value) {w : World} (hr : w.rangeAt b k cs) (h0 : ρ (.tmp x) = .pointer (some ⟨b, k, none⟩)) : (execOp ρ o).run Try.prog w = .ok (.value (.agg cs.toArray)) w := by
  have := run_loadAt_mid (P := Try.prog) w b k 140 cs _ hr Try.underlying140 rfl (info_frameL cs hl)
  unfold execOp
  simp only [ho, h0, Sem.run_bind, this, Result.andThen_ok, Sem.run_pure]
theorem bytes_eq (a b : PagM.Bs) : decide (a.map (fun x => (x.toNat : Int)) = b.map (fun x => (x.toNat : Int))) = decide (a = b) := by
  apply decide_eq_decide.2
  constructor
  · intro h
    exact (List.map_inj_right (fun x y h => UInt8.toNat_inj.1 (by omega))).1 h
  · rintro rfl; rfl
theorem bytes_ints (l : PagM.Bs) : (l.map (fun x => (x.toNat : Int))).map (Value.int .u8) = l.map byteV := by
  rw [List.map_map]; rfl
theorem neq_pageE {o : Oper} {x y : Tmp} (ho : o.op = .binOp .neq 156 (.tmp x) (.tmp y) 156) {a b : PagM.Bs} (ha : a.length = 128) (hb : b.length = 128) {v : Bool} (hv : decide (a = b) = v) (ρ : Operand → Value) (w : World)
    (h0 : ρ (.tmp x) = .agg (a.map byteV).toArray) (h1 : ρ (.tmp y) = .agg (b.map byteV).toArray) : (execOp ρ o).run Try.prog w = .ok (.value (.bool (!v))) w := by
  have h := run_equalIn_ints (P := Try.prog) 9998 156 5 .u8 (a.map (fun x => (x.toNat : Int))) (b.map (fun x => (x.toNat : Int))) (by simp [ha, hb]) (by rw [List.length_map, ha]; exact Try.underlying156) Try.underlying5 (fun w => by kernel_rfl) (fun w => by kernel_rfl) w
  rw [bytes_eq, hv, bytes_ints, bytes_ints] at h
  have h' : (Op.equalIn 10000 156 (.agg (a.map byteV).toArray) (.agg (b.map byteV).toArray)).run Try.prog w = .ok v w := h
  unfold execOp
  simp only [ho, h0, h1]
  generalize (a.map byteV).toArray = A at h' ⊢
  generalize (b.map byteV).toArray = B at h' ⊢
  simp [go_sem, h']

theorem cut_arr {o : Oper} {x y : Tmp} (ho : o.op = .slice 156 (.tmp x) (some (.const (.int .i64 2))) (some (.tmp y)) none) (b dn : Nat) (hd : dn ≤ 125) (ρ : Operand → Value) (w : World) (h0 : ρ (.tmp x) = .pointer (some ⟨b, 0, none⟩)) (h1 : ρ (.tmp y) = .int .i64 (2 + (dn : Int))) (hc : ρ (.const (.int .i64 2)) = .int .i64 2) :
    (execOp ρ o).run Try.prog w = .ok (.value (.slice (some ⟨b, 2, none⟩) dn 126)) w := by
  obtain ⟨q, hq⟩ : ∃ q, q = 2 + dn := ⟨_, rfl⟩
  rw [show (2 : Int) + (dn : Int) = (q : Int) by omega] at h1
  have a1 : q ≤ 128 := by omega
  have a2 : (q : Int) ≤ 128 := by omega
  have a3 : (2 : Int) ≤ (q : Int) := by omega
  have a4 : 2 ≤ q := by omega
  have a5 : q - 2 = dn := by omega
  have a6 : (q : Int) - 2 = (dn : Int) := by omega
  simp [execOp, ho, h0, h1, hc, go_sem, a2, a3, a5, add_of]
set_option maxRecDepth 10000 in
set_option maxHeartbeats 4000000 in
theorem frame_any (p : PagM.Bs) (hl : p.length = 128) (h1 : (p.getD 1 0).toNat ≤ 125) (w : World) :
    Calls Try.prog 76 #[.agg (p.map byteV).toArray] w fun e w' => ∃ ao cap, e = .returned (frV (guess p).kind.toNat (guess p).first (guess p).last (.slice ao (guess p).data.length cap)) ∧ Own.St w.heap.size w w' [AB ao (guess p).data.length cap (guess p).data] := by
  obtain ⟨gk, hgk⟩ : ∃ x, x = (guess p).kind := ⟨_, rfl⟩
  obtain ⟨gf, hgf⟩ : ∃ x, x = (guess p).first := ⟨_, rfl⟩
  obtain ⟨gl, hgl⟩ : ∃ x, x = (guess p).last := ⟨_, rfl⟩
  obtain ⟨gd, hgd⟩ : ∃ x, x = (guess p).data := ⟨_, rfl⟩
  rw [← hgk, ← hgf, ← hgl, ← hgd]
  obtain ⟨a, ha⟩ : ∃ a, a = p.getD 0 0 := ⟨_, rfl⟩
  obtain ⟨d, hd⟩ : ∃ d, d = p.getD 1 0 := ⟨_, rfl⟩
  have ha8 : a.toNat ≤ 255 := by have := a.toNat_lt; omega
  have hgdl : gd.length = d.toNat := by rw [hgd, hd]; exact (guess_small p hl h1).2
  rw [← hd] at h1
  have ek : bits .and .u8 (a.toNat : Int) 63 = (gk.toNat : Int) := by
    have : gk.toNat = a.toNat % 64 := by rw [hgk, ha]; unfold guess; exact ofNat_toNat _ (by omega)
    rw [and63 a.toNat (by omega), this]
  have ef : (bits .and .u8 (a.toNat : Int) 64 != 0) = gf := by
    rw [and64 a.toNat (by omega), hgf, ha]; rfl
  have el : (bits .and .u8 (a.toNat : Int) 128 != 0) = gl := by
    rw [and128 a.toNat (by omega), hgl, ha]; rfl
  have hbox := A8.box (Own.St.start w) 156 p
  have hbx2 := hbox.boxV 140 [.int .u8 0, .bool false, .bool false, .slice none 0 0]
  simp only [size_alloc'] at hbx2
  have c0 := (A8.cell hbx2 1 rfl 0 (by rw [hl]; decide)).1
  have c1 := (A8.cell hbx2 1 rfl 1 (by rw [hl]; decide)).1
  rw [← ha] at c0
  rw [← hd] at c1
  have CL : Hid (Calls Try.prog 75 #[.slice (some ⟨w.heap.size, 2, none⟩) d.toNat 126] ((w.alloc (.cells (p.map byteV).toArray 156)).alloc (.cells #[.int .u8 0, .bool false, .bool false, .slice none 0 0] 140)) fun e w' => ∃ a' c', e = .returned (.slice a' d.toNat c') ∧ Own.St w.heap.size w w' [AB a' d.toNat c' gd, AVals (w.heap.size + 1) 140 [.int .u8 0, .bool false, .bool false, .slice none 0 0], A8 w.heap.size 156 p]) := by
    refine cloneBytes hbx2 _ _ _ gd hgdl ?_ (by omega)
    intro j u hu
    have hj := (List.getElem?_eq_some_iff.1 hu).1
    rw [List.length_map, hgdl] at hj
    have h2 := (A8.cell hbx2 1 rfl (2 + j) (by rw [hl]; omega)).1
    rw [add_of, h2, ← hu, hgd]
    unfold guess
    simp only
    rw [List.getElem?_map, List.getElem?_take_of_lt (by rw [← hd]; exact hj), List.getElem?_drop, List.getElem?_eq_getElem (by rw [hl]; omega), List.getD_eq_getElem?_getD, List.getElem?_eq_getElem (by rw [hl]; omega)]
    rfl
  have HGDL := Lib.hid hgdl
  have HP := Lib.hid hl
  clear hbox hbx2 hgk hgf hgl hgd ha hd hgdl hl
  go_enter Try.func76, Try.ntmps76
  go_wp2_with (refine Byt.wpList_val rfl (cut_arr rfl w.heap.size d.toNat h1 _ _ rfl rfl rfl) ?_)
  refine CL.out.mono ?_
  clear CL c0 c1
  rintro e w3 ⟨a3, c3, rfl, h3⟩
  have H3 := Lib.hid h3
  have q0 := h3.cellV 1 rfl 0 rfl
  have q1 := h3.cellV 1 rfl 1 rfl
  have q2 := h3.cellV 1 rfl 2 rfl
  have q3 := h3.cellV 1 rfl 3 rfl
  have h7 := (((h3.storeV 1 rfl 0 (.int .u8 (gk.toNat : Int))).storeV 1 rfl 1 (.bool gf)).storeV 1 rfl 2 (.bool gl)).storeV 1 rfl 3 (.slice a3 d.toNat c3)
  have H7 := Lib.hid h7
  clear h3 h7
  go_wp2
  refine bodyPost_ret (results_cell_row rfl _ _ (w.heap.size + 1) 140 _ (0, 0) _ rfl (H7.out.rowV 1 rfl) Try.underlying140 rfl (info_frame _ rfl)) rfl ?_
  rw [HGDL.out]
  exact ⟨a3, c3, rfl, (H7.out.swap2.drop 1).drop2⟩
end Pag
end Go.Proofs.Ytmdphcebmgcdbaa

end
section
namespace Go.Proofs.Ytmdphcebmgcdbaa
open Go.RowKit Go.Own
namespace Pag
open Go.PagM Byt
theorem takeNew_err (x : Frm × Nat) (hx : x = (zeroF, 90)) {w w' : World} (h : Below w.heap.size w w') : TakeNew x w (.returned (.tuple #[.agg #[.int .u8 0, .bool false, .bool false, .slice none 0 0], errP 90])) w' := by
  subst hx
  exact ⟨none, 0, rfl, ⟨.inl rfl, rfl, ⟨Nat.le_refl _, Nat.zero_le _⟩, fun _ => rfl⟩, .inl rfl, h⟩
theorem view_range {w : World} {D : Nat → Prop} {g o : Nat} {l : PagM.Bs} (h : View w D (some ⟨g, o, none⟩) l) : w.rangeAt g o (l.map byteV) := fun j v hv => by
  have := vcells h _ rfl j v hv
  rwa [add_of] at this
set_option maxRecDepth 10000 in
set_option maxHeartbeats 8000000 in
theorem take_new (ao : Option Addr) (n cap : Nat) (p : PagM.Bs) (w : World) (hg : Given w ao n cap p) (hb : n ≤ 1000000) :
    Calls Try.prog 57 #[.slice ao n cap] w (TakeNew (PagM.take p) w) := by
  obtain ⟨X, hX⟩ : ∃ X, X = PagM.take p := ⟨_, rfl⟩
  rw [← hX]
  have HN := Lib.hid hg.size
  by_cases h128 : ((n : Int) != 128) = true
  · have HX : Hid (X = (zeroF, 90)) := by
      show X = _
      have h2 : ¬ n = 128 := by simp at h128; omega
      rw [hX]; unfold PagM.take; rw [if_neg]; unfold isPage; rw [HN.out]; simp [h2]
    have H2 := Lib.hid ((Own.St.start w).boxV 140 [.int .u8 0, .bool false, .bool false, .slice none 0 0])
    clear hX hg
    go_enter Try.func57, Try.ntmps57
    go_wp2
    refine bodyPost_ret (results_cell_two rfl _ _ w.heap.size 140 _ (0, 0) _ _ rfl rfl (H2.out.rowV 0 rfl) Try.underlying140 rfl (info_frame _ rfl)) rfl ?_
    exact takeNew_err X HX.out H2.out.below
  have hn : n = 128 := by simp at h128; omega
  subst hn
  clear h128 hb
  obtain ⟨g, o, rfl, _, hlt, c0⟩ := vat hg.view (k := 0) (by rw [hg.size]; decide)
  have c1 := vcell hg.view (k := 1) (by rw [hg.size]; decide)
  obtain ⟨d, hd⟩ : ∃ d, d = p.getD 1 0 := ⟨_, rfl⟩
  rw [← hd] at c1
  have hroom := hg.room
  unfold maxLen at hroom
  have hd8 : d.toNat ≤ 255 := by have := d.toNat_lt; omega
  have c1' : (w.alloc (.cells #[.int .u8 0, .bool false, .bool false, .slice none 0 0] 140)).cell? ⟨g, o + 1, none⟩ = some (.int .u8 (d.toNat : Int)) := cell_alloc c1 _
  by_cases hd125 : (125 : Int) < (d.toNat : Int)
  · have HX : Hid (X = (zeroF, 90)) := by
      show X = _
      have h2 : ¬ d.toNat ≤ 125 := by omega
      rw [hX]; unfold PagM.take; rw [if_neg]; unfold isPage; rw [← hd]; simp [h2]
    have H2 := Lib.hid ((Own.St.start w).boxV 140 [.int .u8 0, .bool false, .bool false, .slice none 0 0])
    clear hX hg hd c0 c1
    go_enter Try.func57, Try.ntmps57
    go_wp2
    refine bodyPost_ret (results_cell_two rfl _ _ w.heap.size 140 _ (0, 0) _ _ rfl rfl (H2.out.rowV 0 rfl) Try.underlying140 rfl (info_frame _ rfl)) rfl ?_
    exact takeNew_err X HX.out H2.out.below
  · have hd5 : d.toNat ≤ 125 := by omega
    obtain ⟨g63, gdl⟩ := guess_small p hg.size (by rw [← hd]; exact hd5)
    rw [← hd] at gdl
    have FR : Hid (∀ wx, Calls Try.prog 76 #[.agg (p.map byteV).toArray] wx fun e w' => ∃ ao cap, e = .returned (frV (guess p).kind.toNat (guess p).first (guess p).last (.slice ao (guess p).data.length cap)) ∧ Own.St wx.heap.size wx w' [AB ao (guess p).data.length cap (guess p).data]) := fun wx => frame_any p hg.size (by rw [← hd]; exact hd5) wx
    obtain ⟨sm, hsm⟩ : ∃ b, b = decide (laid (guess p) = p) := ⟨_, rfl⟩
    have HX0 : X = if sm = true then (guess p, 0) else (zeroF, 90) := by
      rw [hX]
      unfold PagM.take isPage
      rw [HN.out, ← hd, ← hsm, show decide ((128 : Nat) = 128) = true from rfl, show decide (d.toNat ≤ 125) = true from decide_eq_true hd5]
      simp
    have LL : Hid ((laid (guess p)).length = 128) := laid_len _ (by rw [gdl]; exact hd5)
    obtain ⟨gu, hgu⟩ : ∃ x, x = guess p := ⟨_, rfl⟩
    rw [← hgu] at HX0 hsm g63 gdl FR LL
    obtain ⟨gk, gf, gl, gd⟩ := gu
    simp only at g63 gdl FR
    have HX := Lib.hid HX0
    have HSM := Lib.hid hsm
    have HGD := Lib.hid gdl
    obtain ⟨z, hz⟩ : ∃ z, z = ((List.replicate 128 (0 : UInt8)).map byteV).toArray := ⟨_, rfl⟩
    have ZP : Hid ((Try.prog.info? 156).bind (·.zero) = some (.agg z)) := by rw [hz]; exact zero_page
    have h2 := ((Own.St.start w).boxV 140 [.int .u8 0, .bool false, .bool false, .slice none 0 0])
    have RG : Hid ((w.alloc (.cells #[.int .u8 0, .bool false, .bool false, .slice none 0 0] 140)).rangeAt g o (p.map byteV)) := view_range (hg.later h2.below).view
    obtain ⟨W2, hW2⟩ : ∃ W, W = w.alloc (.cells #[.int .u8 0, .bool false, .bool false, .slice none 0 0] 140) := ⟨_, rfl⟩
    rw [← hW2] at h2
    obtain ⟨b4, hb4⟩ : ∃ b, b = W2.heap.size := ⟨_, rfl⟩
    obtain ⟨W3, hW3⟩ : ∃ W, W = W2.alloc (.cells z 156) := ⟨_, rfl⟩
    have h3 := A8.box h2 156 (List.replicate 128 0)
    rw [← hz, ← hb4, ← hW3] at h3
    have TH := Lib.hid (A8.there h3 0 rfl p (by rw [hg.size]; rfl))
    have h4 := A8.setAll h3 0 rfl p (by rw [hg.size]; rfl)
    simp only [List.set_cons_zero] at h4
    obtain ⟨W4, hW4⟩ : ∃ W, W = W3.setCells b4 0 (p.map byteV).toArray.toList := ⟨_, rfl⟩
    rw [← hW4] at h4
    have IB := Lib.hid (info_page p hg.size)
    have IL := Lib.hid (info_pageL p hg.size)
    have OB := Lib.hid (one8 p)
    have ROW4 := Lib.hid (A8.row h4 0 rfl)
    have HW2 := Lib.hid hW2
    have HW3 := Lib.hid hW3
    have HW4 := Lib.hid hW4
    have HB4 := Lib.hid hb4
    have H4 := Lib.hid h4
    have FC := Lib.hid (FR.out W4)
    have hat : ∀ w, (Instr.arrayAt 156 (.slice (some ⟨g, o, none⟩) 128 cap)).run Try.prog w = .ok (.pointer (some ⟨g, o, none⟩)) w := fun w => run_arrayAt w 156 _ 128 _ 128 cap Try.underlying156 (Nat.le_refl _)
    clear FR hX HX0 hsm hg hd c0 c1 hgu gdl hz h2 h3 h4 hW2 hW3 hW4 hb4
    go_enter Try.func57, Try.ntmps57
    go_wp2_with (first
      | (refine wpList_load_mid rfl 156 (.tmp 17) rfl g o rfl (p.map byteV) _ RG.out Try.underlying156 rfl IL.out ?_)
      | (refine Own.wpList_allocZ rfl 156 rfl z ZP.out ?_; rw [← HW2.out, ← HB4.out, ← HW3.out])
      | (refine wpList_store_mid rfl 156 (.tmp 4) (.tmp 18) rfl b4 0 (p.map byteV).toArray rfl rfl TH.out IB.out OB.out ?_; rw [← HW4.out])
      | (refine wpList_load_row rfl 156 (.tmp 4) rfl b4 rfl 156 _ (0, 0) _ ROW4.out Try.underlying156 rfl IB.out ?_))
    refine FC.out.mono ?_
    clear FC RG TH ROW4 c1'
    rintro e w5 ⟨a5, c5, rfl, h5⟩
    obtain ⟨S5, hS5, hge, _⟩ := h5.at 0 rfl
    have h6 := H4.out.adopt h5.below (AB a5 gd.length c5 gd) hS5 hge
    have h7 := h6.boxV 140 (frC gk.toNat gf gl (.slice a5 gd.length c5)).toList
    rw [HGD.out] at h7 ⊢
    have H7 := Lib.hid h7
    clear h5 h6 h7 hS5 hge
    go_wp2_with (fail)
    obtain ⟨b5, hb5⟩ : ∃ b, b = w5.heap.size := ⟨_, rfl⟩
    have h7 := H7.out
    obtain ⟨W7, hW7⟩ : ∃ W, W = w5.alloc (.cells (frC gk.toNat gf gl (.slice a5 d.toNat c5)) 140) := ⟨_, rfl⟩
    rw [← hW7, ← hb5]
    rw [← hW7, ← hb5] at h7
    have H7 := Lib.hid h7
    have HG7 : Hid (Given W7 a5 d.toNat c5 gd) := given_own h7 1 rfl
    clear hb5 h7 hW7
    have R5 : Hid (∀ wx, Below W7.heap.size W7 wx → wx.rangeAt b5 0 (frC gk.toNat gf gl (.slice a5 d.toNat c5)).toList) := fun wx hwx => range_box (H7.out.later hwx) 0 rfl
    have R4 : Hid (∀ wx, Below W7.heap.size W7 wx → wx.rangeAt b4 0 (p.map byteV)) := fun wx hwx => range_box (t := 156) (H7.out.later hwx) 2 rfl
    have CL : Hid (∀ wx, Below W7.heap.size W7 wx → Calls Try.prog 70 #[frV gk.toNat gf gl (.slice a5 d.toNat c5)] wx fun e w' => e = .returned (.agg ((laid ⟨gk, gf, gl, gd⟩).map byteV).toArray) ∧ Below wx.heap.size wx w') := fun wx hwx => lay_any ⟨gk, gf, gl, gd⟩ a5 d.toNat c5 wx (HG7.out.later hwx) g63 hd5
    obtain ⟨nq, hnq⟩ : ∃ b, b = !sm := ⟨_, rfl⟩
    have HNQ := Lib.hid hnq
    have HS2 : Hid (decide (laid ⟨gk, gf, gl, gd⟩ = p) = sm) := HSM.out.symm
    refine wp_lax_list (by kernel_rfl) (by kernel_rfl) (by kernel_rfl) ?_
    refine wpL_run1 (x := .tmp 5) (.pointer (some ⟨b5, 0, none⟩)) (frV gk.toNat gf gl (.slice a5 d.toNat c5)) (by kernel_rfl) (by kernel_rfl) (by kernel_rfl) (by kernel_rfl) (by kernel_rfl) (fun wx ρ hwx h0 hc => load_frameE (frC gk.toNat gf gl (.slice a5 d.toNat c5)).toList rfl rfl ρ (R5.out wx hwx) h0) ?_
    refine wpL_fn (.agg ((laid ⟨gk, gf, gl, gd⟩).map byteV).toArray) [frV gk.toNat gf gl (.slice a5 d.toNat c5)] rfl (by kernel_rfl) (by kernel_rfl) (by kernel_rfl) (by kernel_rfl) (fun _ _ => by simp [go_sem]) (fun wx hwx => CL.out wx hwx) ?_
    refine wpL_run1 (x := .tmp 4) (.pointer (some ⟨b4, 0, none⟩)) (.agg (p.map byteV).toArray) (by kernel_rfl) (by kernel_rfl) (by kernel_rfl) (by kernel_rfl) (by kernel_rfl) (fun wx ρ hwx h0 hc => load_pageE p HN.out rfl ρ (R4.out wx hwx) h0) ?_
    refine wpL_run2 (x := .tmp 22) (y := .tmp 23) (.agg ((laid ⟨gk, gf, gl, gd⟩).map byteV).toArray) (.agg (p.map byteV).toArray) (.bool (!sm)) (by kernel_rfl) (by kernel_rfl) (by kernel_rfl) (by kernel_rfl) (by kernel_rfl) (by kernel_rfl) (fun wx ρ hwx h0 h1 hc => neq_pageE rfl LL.out HN.out HS2.out ρ wx h0 h1) ?_
    refine wpL_end (by kernel_rfl) (fun w8 hw8 => ?_)
    simp only [FinL, setL, List.set_cons_zero, List.set_cons_succ]
    have H8 := Lib.hid (H7.out.later hw8)
    have ROW8 := Lib.hid (H8.out.rowV 0 rfl)
    clear hw8 R5 R4 CL H7 HG7 HNQ hnq HSM HS2 LL
    have q0 := H8.out.cellV 3 rfl 0 rfl
    have q1 := H8.out.cellV 3 rfl 1 rfl
    have q2 := H8.out.cellV 3 rfl 2 rfl
    have q3 := H8.out.cellV 3 rfl 3 rfl
    cases sm
    · have HXX : Hid (X = (zeroF, 90)) := by show X = _; rw [HX.out]; rfl
      have H9 := Lib.hid ((((H8.out.storeV 3 rfl 0 (.int .u8 0)).storeV 3 rfl 1 (.bool false)).storeV 3 rfl 2 (.bool false)).storeV 3 rfl 3 (.slice none 0 0))
      clear HX
      go_wp2
      refine bodyPost_ret (results_cell_two rfl _ _ w.heap.size 140 _ (0, 0) _ _ rfl rfl (H9.out.rowV 3 rfl) Try.underlying140 rfl (info_frame _ rfl)) rfl ?_
      exact takeNew_err X HXX.out H9.out.below
    · have HXX : Hid (X = (⟨gk, gf, gl, gd⟩, 0)) := by show X = _; rw [HX.out]; rfl
      have h9 := (((H8.out.storeV 3 rfl 0 (.int .u8 (gk.toNat : Int))).storeV 3 rfl 1 (.bool gf)).storeV 3 rfl 2 (.bool gl)).storeV 3 rfl 3 (.slice a5 d.toNat c5)
      have H9 := Lib.hid h9
      clear HX h9
      go_wp2_with (refine wpList_load_row rfl 140 (.tmp 5) rfl b5 rfl 140 _ (0, 0) _ ROW8.out Try.underlying140 rfl (info_frame _ rfl) ?_)
      refine bodyPost_ret (results_cell_two rfl _ _ w.heap.size 140 _ (0, 0) _ _ rfl rfl (H9.out.rowV 3 rfl) Try.underlying140 rfl (info_frame _ rfl)) rfl ?_
      rw [HXX.out]
      unfold TakeNew
      simp only [HGD.out]
      exact ⟨a5, c5, rfl, given_own H9.out 1 rfl, ab_view H9.out 1 rfl, H9.out.below⟩
end Pag
end Go.Proofs.Ytmdphcebmgcdbaa

end
section
namespace Go.Own
open Go.RowKit
section
variable {P : Program} {t e : TypeId} {z : Value} {bytes : Nat} {B : Nat} {w0 w : World} {Ps : List Asn} {v : Value}
theorem wpList_grid_appendN {ops : Array Oper} {rest : List Oper} {o : Oper} {a : Act} {Q : Exit → Act → World → Prop} {α : Type} {enc : α → Value} {t2 : TypeId} (O : One P t2 t z bytes) (hgd : o.guard = none) (s x : Operand)
    (ho : o.op = .call { callee := .builtin .append, args := #[s, x], argTypes := #[t2, t2] }) {row : List α} {rows : List (List α)} {n : Nat} (hn : row.length = n) {ao : Option Addr} {cap : Nat} (H : St B w0 w (AGrid t e enc v rows :: ARow e 1 (.slice ao n cap) n (row.map enc) :: Ps)) (hs : a.eval s = v)
    (bo : Addr) (hx : a.eval x = .slice (some bo) 1 1) (hbo : bo.spot = none) (hc : w.cell? bo = some (.slice ao n cap)) (b1 : rows.length + 1 ≤ 100000000) (b2 : bytes ≤ 1000)
    (h : ∀ ao' cap' w', St B w0 w' (AGrid t e enc (.slice ao' (rows.length + 1) cap') (rows ++ [row]) :: Ps) → wpList P ops Q rest (a.put o.dst (.slice ao' (rows.length + 1) cap')) w') : wpList P ops Q (o :: rest) a w := by
  subst hn
  exact wpList_grid_append O hgd s x ho H hs bo hx hbo hc b1 b2 h
end
end Go.Own
namespace Go.Proofs.Ytmdphcebmgcdbaa
open Go.RowKit Go.Own
namespace Byt
/-- an array of bytes of one's own, whole, may be given -/
theorem given_vals {B : Nat} {w0 w : World} {Ps : List Asn} (H : Own.St B w0 w Ps) (i : Nat) {b n : Nat} {t : TypeId} {l : List UInt8} (hi : Ps[i]? = some (A8 b t l)) (hn : l.length = n) (hm : n ≤ maxLen) : Given w (some ⟨b, 0, none⟩) n n l :=
  ⟨(A8.view H i hi).live.mono (fun _ hk => hk.2), hn, ⟨Nat.le_refl _, hm⟩, fun h => by cases h⟩
/-- a table of bytes of one's own may be given, whatever its blocks are called -/
theorem givenL_ownE {B : Nat} {w0 w : World} {Ps : List Asn} {v : Value} {e : TypeId} {L : List (List UInt8)} (H : Own.St B w0 w (AGrid 56 e byteV v L :: Ps)) : ∃ ao cap, v = .slice ao L.length cap ∧ GivenL w ao L.length cap L := by
  obtain ⟨rs, hl, h⟩ := H.gridOpen
  obtain ⟨ao, cap, rfl⟩ := h.rowForm 0 rfl
  obtain ⟨_, h1, h2, h3⟩ := h.rowLen 0 rfl
  refine ⟨ao, cap, rfl, rfl, ⟨h1, h2⟩, fun e => (h3 e).2, fun j hj => ?_⟩
  obtain ⟨g, rfl, ⟨u, hu, hc⟩, _, _⟩ := h.rowAt 0 rfl j (by omega)
  have hr : rs[j]? = some rs[j] := List.getElem?_eq_getElem (by omega)
  have hL : L[j]? = some L[j] := List.getElem?_eq_getElem hj
  rw [zip_at _ _ _ _ _ _ hr hL] at hu
  cases hu
  have hz := zip_at (gRow e byteV) rs L j _ _ hr hL
  have h4 : (gParts 56 e byteV (.slice (some ⟨g, 0, none⟩) L.length cap) rs L ++ Ps)[j + 1]? = some (ARow e 1 (.slice rs[j].1 L[j].length rs[j].2) L[j].length (L[j].map byteV)) := by
    unfold gParts
    rw [List.cons_append, List.getElem?_cons_succ, List.getElem?_append_left (List.getElem?_eq_some_iff.1 hz).1]
    exact hz
  have el : L.getD j [] = L[j] := by rw [List.getD_eq_getElem?_getD, hL]; rfl
  rw [el]
  obtain ⟨_, k1, k2, k3⟩ := h.rowLen (j + 1) h4
  obtain ⟨S, hS, hB, _⟩ := h.at (j + 1) h4
  refine ⟨g, 0, rs[j].1, rs[j].2, rfl, World.block_lt_of_cell? w _ hc, by rw [Nat.zero_add]; exact hc, ?_⟩
  exact ⟨(Row.view hS).live.mono (fun _ hk => hk.2), rfl, ⟨k1, k2⟩, fun h => (k3 h).2⟩
end Byt
namespace Pag
open Go.PagM Byt
theorem lay_errD (x : PagM.Bs × Nat) (k : Nat) (hx : x = ([], k)) {w w' : World} (h : Below w.heap.size w w') : LayDone x w (.returned (.tuple #[.slice none 0 0, errP k])) w' := by
  subst hx
  exact ⟨none, 0, rfl, ⟨.inl rfl, rfl, ⟨Nat.le_refl _, Nat.zero_le _⟩, fun _ => rfl⟩, h⟩
set_option maxRecDepth 10000 in
set_option maxHeartbeats 4000000 in
theorem layP_any (f : Frm) (ao : Option Addr) (n cap : Nat) (w : World) (hg : Given w ao n cap f.data) :
    Calls Try.prog 92 #[frV f.kind.toNat f.first f.last (.slice ao n cap)] w (LayDone (lay f) w) := by
  obtain ⟨kind, first, last, data⟩ := f
  obtain ⟨k, hk⟩ : ∃ k, k = kind.toNat := ⟨_, rfl⟩
  have hk255 : k ≤ 255 := by have := kind.toNat_lt; omega
  simp only at hg ⊢
  rw [← hk]
  have HN := Lib.hid hg.size
  obtain ⟨X, hX⟩ : ∃ X, X = lay ⟨kind, first, last, data⟩ := ⟨_, rfl⟩
  rw [← hX]
  have hbox := (Own.St.start w).boxV 140 (frC k first last (.slice ao n cap)).toList
  have q0 := (hbox.cellV 0 rfl 0 rfl).1
  have q3 := (hbox.cellV 0 rfl 3 rfl).1
  by_cases h63 : (63 : Int) < (k : Int)
  · have HX : Hid (X = ([], 1)) := by
      show X = _
      have e : layE ⟨kind, first, last, data⟩ = 1 := by unfold layE; rw [if_pos (by simp only; omega)]
      rw [hX]; unfold lay; rw [e]; rfl
    clear hX hk hg hbox
    go_enter Try.func92, Try.ntmps92
    go_wp2
    go_ret2
    exact lay_errD X 1 HX.out ((Own.St.start w).alloc _).below
  by_cases h125 : (125 : Int) < (n : Int)
  · have HX : Hid (X = ([], 4)) := by
      show X = _
      have e : layE ⟨kind, first, last, data⟩ = 4 := by unfold layE; rw [if_neg (by simp only; omega), if_pos (by simp only; rw [HN.out]; omega)]
      rw [hX]; unfold lay; rw [e]; rfl
    clear hX hk hg hbox
    go_enter Try.func92, Try.ntmps92
    go_wp2
    go_ret2
    exact lay_errD X 4 HX.out ((Own.St.start w).alloc _).below
  have h0 : layE ⟨kind, first, last, data⟩ = 0 := layE_ok (by simp only; omega) (by simp only; rw [HN.out]; omega)
  obtain ⟨Y, hY⟩ : ∃ Y, Y = laid ⟨kind, first, last, data⟩ := ⟨_, rfl⟩
  have HX : Hid (X = (Y, 0)) := by
    show X = _
    rw [hX, hY]
    unfold lay
    rw [if_pos h0]
  have hYl : Y.length = 128 := by rw [hY]; exact laid_len _ (by rw [HN.out]; omega)
  have CL0 := lay_any ⟨kind, first, last, data⟩ ao n cap (w.alloc (.cells (frC k first last (.slice ao n cap)) 140)) (hg.later hbox.below) (by simp only; omega) (by omega)
  simp only at CL0
  rw [← hY, ← hk] at CL0
  have CL := Lib.hid CL0
  have ROW := Lib.hid (hbox.rowV 0 rfl)
  obtain ⟨z, hz⟩ : ∃ z, z = ((List.replicate 128 (0 : UInt8)).map byteV).toArray := ⟨_, rfl⟩
  have ZP : Hid ((Try.prog.info? 156).bind (·.zero) = some (.agg z)) := by rw [hz]; exact zero_page
  have HZ := Lib.hid hz
  have HB := Lib.hid hbox
  have HYL := Lib.hid hYl
  have IB := Lib.hid (info_page Y hYl)
  have OB := Lib.hid (one8 Y)
  clear hX hk hg hbox hY hYl CL0 hz h0
  go_enter Try.func92, Try.ntmps92
  go_wp2_with (refine wpList_load_row rfl 140 (.tmp 1) rfl w.heap.size rfl 140 _ (0, 0) _ ROW.out Try.underlying140 rfl (info_frame _ rfl) ?_)
  refine CL.out.mono ?_
  clear CL ROW q0 q3
  rintro e w3 ⟨rfl, hb3⟩
  have h3 := HB.out.later hb3
  obtain ⟨b4, hb4⟩ : ∃ b, b = w3.heap.size := ⟨_, rfl⟩
  obtain ⟨W4, hW4⟩ : ∃ W, W = w3.alloc (.cells z 156) := ⟨_, rfl⟩
  have h4 := A8.box h3 156 (List.replicate 128 0)
  rw [← HZ.out, ← hb4, ← hW4] at h4
  have TH := Lib.hid (A8.there h4 0 rfl Y (by rw [HYL.out]; rfl))
  have h5 := A8.setAll h4 0 rfl Y (by rw [HYL.out]; rfl)
  simp only [List.set_cons_zero] at h5
  have H5 := Lib.hid h5
  have HB4 := Lib.hid hb4
  have HW4 := Lib.hid hW4
  clear hb3 h3 hb4 hW4 h4 h5
  go_wp2_with (first
    | (refine Own.wpList_allocZ rfl 156 rfl z ZP.out ?_; rw [← HB4.out, ← HW4.out])
    | (refine wpList_store_mid rfl 156 (.tmp 4) (.tmp 13) rfl b4 0 (Y.map byteV).toArray rfl rfl TH.out IB.out OB.out ?_))
  go_ret2
  rw [HX.out]
  refine ⟨some ⟨b4, 0, none⟩, 128, ?_, ?_, H5.out.below⟩
  · simp only [HYL.out]; rfl
  · simp only [HYL.out]
    exact given_vals H5.out 0 rfl HYL.out (by decide)
end Pag
end Go.Proofs.Ytmdphcebmgcdbaa

end
