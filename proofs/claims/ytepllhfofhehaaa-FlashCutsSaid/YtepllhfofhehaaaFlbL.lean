/- The landed flash: Read, Copy. -/
import Derived.Test.YtepllhfofhehaaaFlbK
namespace Go.Proofs.Ytepllhfofhehaaa
open Go.RowKit Go.Own
namespace Fla
open Go.FlaM Byt
section
variable {B : Nat} {w0 w : World} {Ps : List Asn} {p : Nat} {s : FS} {N : Nat}
set_option maxHeartbeats 1600000 in
theorem read_any (H : Own.St B w0 w (AFl p s :: Ps)) (ok : Ok s N) (hN : N ≤ 10000) (seg page : Int) (hseg : i64B seg) (hpage : i64B page) :
    Calls Try.prog 23 #[ptr p, .int .i64 seg, .int .i64 page] w fun e w' => ∃ ao cap, e = .returned (.tuple #[.slice ao (read s seg page).1.length cap, errV (read s seg page).2]) ∧ Own.St B w0 w' (AB ao (read s seg page).1.length cap (read s seg page).1 :: AFl p s :: Ps) := by
  obtain ⟨x, hx, h⟩ := flOpen H
  have HS0 := hasPage_st h seg page
  have hthere : there s seg page = decide (0 ≤ seg ∧ seg < (s.safe.length : Int) ∧ 0 ≤ page ∧ page < (s.pp : Int)) := rfl
  rw [← hthere] at HS0
  have HS := Lib.hid HS0
  have c6 := (h.cellV 0 rfl 6 rfl).1
  have H0 := Lib.hid H
  obtain ⟨th, hth⟩ : ∃ t, t = there s seg page := ⟨_, rfl⟩
  rw [← hth] at HS
  cases th
  · have HE : Hid (read s seg page = ([], 1)) := by
      show read s seg page = ([], 1)
      unfold FlaM.read
      rw [if_pos hth.symm]
    rw [HE.out]
    clear H h hx ok hth hthere c6 HS0
    go_enter Try.func23, Try.ntmps23
    go_wp2_with (fail)
    refine HS.out.mono ?_
    rintro e w1 ⟨rfl, rfl⟩
    clear HS
    go_wp2
    go_ret2
    exact ⟨none, 0, rfl, ab_nil H0.out⟩
  by_cases hoff : true = s.off
  · have HE : Hid (read s seg page = ([], 6)) := by
      show read s seg page = ([], 6)
      unfold FlaM.read
      rw [if_neg (by rw [← hth]; simp), if_pos hoff.symm]
    rw [HE.out]
    rw [← hoff] at c6
    clear H h hx ok hth hthere HS0 hoff
    go_enter Try.func23, Try.ntmps23
    go_wp2_with (fail)
    refine HS.out.mono ?_
    rintro e w1 ⟨rfl, rfl⟩
    clear HS
    go_wp2
    go_ret2
    exact ⟨none, 0, rfl, ab_nil H0.out⟩
  have hoff2 : s.off = false := by cases h : s.off with | false => rfl | true => exact absurd h.symm hoff
  rw [hoff2] at c6
  obtain ⟨t1, t2, t3, t4⟩ := there_spec hth.symm
  obtain ⟨k, hk⟩ : ∃ k : Nat, seg = (k : Int) := ⟨seg.toNat, by omega⟩
  obtain ⟨q, hq⟩ : ∃ q : Nat, page = (q : Int) := ⟨page.toNat, by omega⟩
  subst hk hq
  have hks : k < s.safe.length := by omega
  have hqp : q < s.pp := by omega
  obtain ⟨gN, g2, cR, haN, cg, rg, hg2, hnl, hcR, hcR2⟩ := now_cells h ok k q hks hqp
  have HE : Hid (read s (k : Int) (q : Int) = (now s k q, 0)) := by
    show read s (k : Int) (q : Int) = (now s k q, 0)
    unfold FlaM.read
    rw [if_neg (by rw [← hth]; simp), if_neg (by rw [hoff2]; decide)]
    rfl
  rw [HE.out]
  have c1 := (h.cellV 0 rfl 1 rfl).1
  rw [haN] at c1
  obtain ⟨nw, hnw⟩ : ∃ b, b = now s k q := ⟨_, rfl⟩
  rw [← hnw] at rg hnl ⊢
  have CB : Hid (Calls Try.prog 50 #[.slice (some ⟨g2, q * 128, none⟩) 128 128] w fun e w' => ∃ a' c', e = .returned (.slice a' 128 c') ∧ Own.St B w0 w' (AB a' 128 c' nw :: AFl p s :: Ps)) :=
    cloneBytes H ⟨g2, q * 128, none⟩ 128 128 nw hnl (fun j u hu => by rw [add_of]; exact rg j u hu) (.inr hg2) (by decide)
  have HNL := Lib.hid hnl
  obtain ⟨nS, hnS⟩ : ∃ z, z = s.safe.length := ⟨_, rfl⟩
  rw [← hnS] at c1 hks
  obtain ⟨pp, hpp⟩ : ∃ z, z = s.pp := ⟨_, rfl⟩
  rw [← hpp] at cg hqp
  clear H h hx ok hth hthere HS0 hoff hoff2 t1 t2 t3 t4 haN rg hg2 hnl hcR hcR2 hnw hnS hpp H0
  go_enter Try.func23, Try.ntmps23
  go_wp2_with (fail)
  refine HS.out.mono ?_
  rintro e w1 ⟨rfl, rfl⟩
  clear HS
  go_wp2_with (fail)
  refine CB.out.mono ?_
  clear CB c1 cg c6
  rintro e w2 ⟨a2, c2, rfl, h2⟩
  have H2 := Lib.hid h2
  clear h2
  go_wp2
  go_ret2
  refine ⟨a2, c2, ?_, ?_⟩
  · rw [HNL.out]; rfl
  · rw [HNL.out]; exact H2.out

theorem zero_flash : ∃ z : Array Value, z.size = 9 ∧ (Try.prog.info? 65).bind (·.zero) = some (.agg z) := by
  refine ⟨#[.int .i64 0, .slice none 0 0, .slice none 0 0, .slice none 0 0, .slice none 0 0, .int .i64 0, .bool false, .bool false, .int .i64 0], rfl, ?_⟩
  kernel_rfl
theorem info_flash (cs : List Value) (h : cs.length = 9) : (Try.prog.info? 65).map (·.size) = some cs.toArray.size := by
  have h0 : (Try.prog.info? 65).map (fun i => i.size) = some 9 := by kernel_rfl
  rw [List.size_toArray, h]
  exact h0
theorem one_ints (l : List Nat) : ∀ u ∈ l.map intV, u.oneCell' = true := by
  intro u hu
  obtain ⟨c, _, rfl⟩ := List.mem_map.1 hu
  rfl
theorem one_ops (L : List FlaM.Act) : ∀ u ∈ L.flatMap opCells, u.oneCell' = true := by
  intro u hu
  obtain ⟨a, _, h⟩ := List.mem_flatMap.1 hu
  exact one_op (n := 0) (pp := 0) u h
set_option maxHeartbeats 3200000 in
theorem copy_any (H : Own.St B w0 w (AFl p s :: Ps)) (ok : Ok s N) (hN : N ≤ 10000) :
    Calls Try.prog 15 #[ptr p] w fun e w' => ∃ q, e = .returned (ptr q) ∧ Own.St B w0 w' (AFl q s :: AFl p s :: Ps) := by
  obtain ⟨⟨aN, cN, aS, cS, vP, vW, armed, lf⟩, hx, h⟩ := flOpen H
  obtain ⟨aP, cP, hP⟩ := h.rowForm 3 rfl
  obtain ⟨aW, cW, hW⟩ := h.rowForm 4 rfl
  dsimp only at hP hW
  subst hP hW
  obtain ⟨cs, hcs⟩ : ∃ c, c = flCells s.pp (.slice aN s.safe.length cN) (.slice aS s.safe.length cS) (.slice aP s.L.length cP) (.slice aW s.wear.length cW) s.n s.off armed lf := ⟨_, rfl⟩
  have hcl : cs.length = 9 := by rw [hcs]; rfl
  have hone : cs.toArray.all (·.oneCell') = true := by
    rw [hcs]
    refine all_oneCell_toArray (fun u hu => ?_)
    simp [flCells] at hu
    rcases hu with rfl | rfl | rfl | rfl | rfl | rfl | rfl | rfl | rfl <;> rfl
  have hrow : w.heap[p]? = some (.cells cs.toArray 65 (0, 0)) := by rw [hcs]; exact h.rowV 0 rfl
  obtain ⟨z, hz1, hz2⟩ := zero_flash
  obtain ⟨q, hq⟩ : ∃ q, q = w.heap.size := ⟨_, rfl⟩
  obtain ⟨W1, hW1⟩ : ∃ W, W = w.alloc (.cells z 65) := ⟨_, rfl⟩
  have hb : Own.St B w0 W1 (AVals q 65 z.toList :: (flParts p ⟨aN, cN, aS, cS, .slice aP s.L.length cP, .slice aW s.wear.length cW, armed, lf⟩ s ++ Ps)) := by
    unfold AVals
    rw [hW1, hq, Array.toArray_toList]
    exact h.box _
  have TH : Hid (W1.there q 0 cs.toArray.size) := hb.thereV 0 rfl (by rw [List.size_toArray, hcl, Array.length_toList, hz1]; exact Nat.le_refl _)
  have hset := Own.St.setAll 0 cs 0 W1 _ z.toList hb rfl (by rw [hcl, Array.length_toList, hz1])
  simp only [List.set_cons_zero, List.take_zero, List.nil_append] at hset
  obtain ⟨W2, hW2⟩ : ∃ W, W = W1.setCells q 0 cs.toArray.toList := ⟨_, rfl⟩
  have h2 : Own.St B w0 W2 (AVals q 65 cs :: (flParts p ⟨aN, cN, aS, cS, .slice aP s.L.length cP, .slice aW s.wear.length cW, armed, lf⟩ s ++ Ps)) := by rw [hW2, List.toList_toArray]; exact hset
  have c1 := (h2.cellV 1 rfl 1 rfl).1
  have hsh := nowG_shape s.L s.safe ok.shape ok.acts
  rw [hcs] at h2
  have hcn := clone_st (h2.front 2 rfl) hsh ok.segs ok.pp
  unfold flParts at hcn
  simp only [List.cons_append, List.nil_append, List.eraseIdx_cons_succ, List.eraseIdx_cons_zero, hsh.len] at hcn
  have CN := Lib.hid hcn
  have HROW := Lib.hid hrow
  have HZ := Lib.hid hz2
  have HI := Lib.hid (info_flash cs hcl)
  have HONE := Lib.hid hone
  have HW1 := Lib.hid hW1
  have HW2 := Lib.hid hW2
  have HQ := Lib.hid hq
  have HOK := Lib.hid ok
  have HX := Lib.hid hx
  have HLL : Hid (s.L.length ≤ 100000) := by have := ok.log; have := ok.n; show s.L.length ≤ 100000; omega
  have HWL : Hid (s.wear.length ≤ 100000) := by have := ok.wear; have := ok.segs; show s.wear.length ≤ 100000; omega
  obtain ⟨G, hG⟩ : ∃ G, G = nowG s.pp s.safe s.L := ⟨_, rfl⟩
  rw [← hG] at CN
  have HG := Lib.hid hG
  obtain ⟨n, hn⟩ : ∃ n, n = s.safe.length := ⟨_, rfl⟩
  rw [← hn] at CN c1
  have HNN := Lib.hid hn
  clear H h hcl hone hrow hz1 hz2 hq hW1 hW2 hb hset h2 hsh ok hx hcs hcn hG hn
  go_enter Try.func15, Try.ntmps15
  go_wp2_with (first
    | (refine wpList_load_row rfl 65 (.tmp 7) rfl p rfl 65 _ (0, 0) _ HROW.out Try.underlying65 rfl HI.out ?_)
    | (refine Fla.wpList_allocZ rfl 65 rfl z HZ.out ?_; rw [← HQ.out, ← HW1.out])
    | (refine wpList_store_mid rfl 65 (.tmp 3) (.tmp 8) rfl q 0 cs.toArray rfl rfl TH.out HI.out HONE.out ?_; rw [← HW2.out]))
  refine CN.out.mono ?_
  clear CN HW1 HW2 HQ HROW TH HZ HI HONE c1
  rintro e w3 ⟨a3, c3, rfl, h3⟩
  have q1 := (h3.cellV 2 rfl 1 rfl)
  have h4 := h3.storeV 2 rfl 1 (.slice a3 n c3)
  have c2 := (h4.cellV 3 rfl 2 rfl).1
  simp only [List.set_cons_succ, List.set_cons_zero] at h4
  have cs0 := clone_st (h4.front 4 rfl) HOK.out.shape HOK.out.segs HOK.out.pp
  rw [← HNN.out] at cs0
  have CS := Lib.hid cs0
  clear cs0
  clear h3 h4
  go_wp2_with (fail)
  refine CS.out.mono ?_
  clear CS c2 q1
  rintro e w4 ⟨a4, c4, rfl, h4⟩
  simp only [List.eraseIdx_cons_succ, List.eraseIdx_cons_zero] at h4
  have q2 := (h4.cellV 4 rfl 2 rfl)
  have h5 := h4.storeV 4 rfl 2 (.slice a4 n c4)
  have c3' := (h5.cellV 5 rfl 3 rfl).1
  simp only [List.set_cons_succ, List.set_cons_zero] at h5
  have CP := Lib.hid (cloneOps (h5.front 6 rfl) (one_ops s.L) HLL.out)
  clear h4 h5
  go_wp2_with (fail)
  refine CP.out.mono ?_
  clear CP c3' q2
  rintro e w5 ⟨a5, c5, rfl, h5⟩
  simp only [List.eraseIdx_cons_succ, List.eraseIdx_cons_zero] at h5
  have q3 := (h5.cellV 6 rfl 3 rfl)
  have h6 := h5.storeV 6 rfl 3 (.slice a5 s.L.length c5)
  have c4' := (h6.cellV 7 rfl 4 rfl).1
  simp only [List.set_cons_succ, List.set_cons_zero] at h6
  have CW := Lib.hid (cloneInts (h6.front 8 rfl) (one_ints s.wear) HWL.out)
  clear h5 h6
  go_wp2_with (fail)
  refine CW.out.mono ?_
  clear CW c4' q3
  rintro e w6 ⟨a6, c6, rfl, h6⟩
  simp only [List.eraseIdx_cons_succ, List.eraseIdx_cons_zero] at h6
  have q4 := (h6.cellV 8 rfl 4 rfl)
  have h7 := h6.storeV 8 rfl 4 (.slice a6 s.wear.length c6)
  simp only [List.set_cons_succ, List.set_cons_zero] at h7
  have FIN : Hid (Own.St B w0 (w6.setCell ⟨q, 4, none⟩ (.slice a6 s.wear.length c6)) (AFl q s :: AFl p s :: Ps)) := by
      have f0 := h7
      have f1 := (f0.front 1 rfl)
      simp only [List.eraseIdx_cons_succ, List.eraseIdx_cons_zero] at f1
      have f2 := (f1.front 3 rfl)
      simp only [List.eraseIdx_cons_succ, List.eraseIdx_cons_zero] at f2
      have f3 := (f2.front 5 rfl)
      simp only [List.eraseIdx_cons_succ, List.eraseIdx_cons_zero] at f3
      have f4 := (f3.front 7 rfl)
      simp only [List.eraseIdx_cons_succ, List.eraseIdx_cons_zero] at f4
      have f5 := (f4.front 9 rfl)
      simp only [List.eraseIdx_cons_succ, List.eraseIdx_cons_zero] at f5
      have f6 := (f5.front 5 rfl)
      simp only [List.eraseIdx_cons_succ, List.eraseIdx_cons_zero] at f6
      have f7 := (f6.front 6 rfl)
      simp only [List.eraseIdx_cons_succ, List.eraseIdx_cons_zero] at f7
      have f8 := (f7.front 7 rfl)
      simp only [List.eraseIdx_cons_succ, List.eraseIdx_cons_zero] at f8
      have f9 := (f8.front 8 rfl)
      simp only [List.eraseIdx_cons_succ, List.eraseIdx_cons_zero] at f9
      have f10 := (f9.front 9 rfl)
      simp only [List.eraseIdx_cons_succ, List.eraseIdx_cons_zero] at f10
      rw [HG.out, HNN.out] at f10
      have g1 := flClose (p := q) (s := s) (x := ⟨a3, c3, a4, c4, .slice a5 s.L.length c5, .slice a6 s.wear.length c6, armed, lf⟩) ⟨HX.out.i64, HX.out.on, HX.out.pos⟩ f10
      have g2 := g1.perm (List.perm_append_comm (l₁ := [AFl q s]))
      have g3 := flClose (p := p) (s := s) (x := ⟨aN, cN, aS, cS, .slice aP s.L.length cP, .slice aW s.wear.length cW, armed, lf⟩) (Ps := Ps ++ [AFl q s]) HX.out (by simpa [flParts] using g2)
      exact g3.perm ((List.perm_append_comm (l₁ := AFl p s :: Ps) (l₂ := [AFl q s])))
  clear h6 h7
  go_wp2
  go_ret
  exact ⟨q, rfl, FIN.out⟩
end
end Fla
end Go.Proofs.Ytepllhfofhehaaa
