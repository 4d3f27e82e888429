/- The landed disk: Copy, New; it keeps what the walks ask. -/
import Derived.Test.YtkddeccgoamopaaBkaE
namespace Go.Proofs.Ytkddeccgoamopaa
open Go.RowKit Go.Own
namespace Bak
open Go.BakM Byt
theorem zero_disk : ∃ z : Array Value, z.size = 7 ∧ (Try.prog.info? 62).bind (·.zero) = some (.agg z) := by
  refine ⟨#[.slice none 0 0, .slice none 0 0, .slice none 0 0, .int .i64 0, .bool false, .bool false, .int .i64 0], rfl, ?_⟩
  kernel_rfl
theorem info_disk (cs : List Value) (h : cs.length = 7) : (Try.prog.info? 62).map (·.size) = some cs.toArray.size := by
  have h0 : (Try.prog.info? 62).map (fun i => i.size) = some 7 := by kernel_rfl
  rw [List.size_toArray, h]
  exact h0
theorem zero_blk : (Try.prog.info? 65).bind (·.zero) = some (.agg (BakM.blank.map byteV).toArray) := by kernel_rfl
section
variable {B : Nat} {w0 w : World} {Ps : List Asn} {p : Nat} {s : DS} {N : Nat}
set_option maxHeartbeats 3200000 in
theorem copy_any (H : Own.St B w0 w (ADk p s :: Ps)) (ok : Ok s N) (hN : N ≤ 10000) :
    Calls Try.prog 12 #[qtr p] w fun e w' => ∃ q, e = .returned (qtr q) ∧ Own.St B w0 w' (ADk q s :: ADk p s :: Ps) := by
  obtain ⟨⟨aN, cN, aS, cS, vP, armed, lf⟩, hx, h⟩ := dkOpen H
  obtain ⟨aP, cP, hP⟩ := h.rowForm 3 rfl
  dsimp only at hP
  subst hP
  obtain ⟨cs, hcs⟩ : ∃ c, c = dkCells (.slice aN s.safe.length cN) (.slice aS s.safe.length cS) (.slice aP s.L.length cP) s.n s.off armed lf := ⟨_, rfl⟩
  have hcl : cs.length = 7 := by rw [hcs]; rfl
  have hone : cs.toArray.all (·.oneCell') = true := by
    rw [hcs]
    refine all_oneCell_toArray (fun u hu => ?_)
    simp [dkCells] at hu
    rcases hu with rfl | rfl | rfl | rfl | rfl | rfl | rfl <;> rfl
  have hrow : w.heap[p]? = some (.cells cs.toArray 62 (0, 0)) := by rw [hcs]; exact h.rowV 0 rfl
  obtain ⟨z, hz1, hz2⟩ := zero_disk
  obtain ⟨q, hq⟩ : ∃ q, q = w.heap.size := ⟨_, rfl⟩
  obtain ⟨W1, hW1⟩ : ∃ W, W = w.alloc (.cells z 62) := ⟨_, rfl⟩
  have hb : Own.St B w0 W1 (AVals q 62 z.toList :: (dkParts p ⟨aN, cN, aS, cS, .slice aP s.L.length cP, armed, lf⟩ s ++ Ps)) := by
    unfold AVals
    rw [hW1, hq, Array.toArray_toList]
    exact h.box _
  have TH : Hid (W1.there q 0 cs.toArray.size) := hb.thereV 0 rfl (by rw [List.size_toArray, hcl, Array.length_toList, hz1]; exact Nat.le_refl _)
  have hset := Own.St.setAll 0 cs 0 W1 _ z.toList hb rfl (by rw [hcl, Array.length_toList, hz1])
  simp only [List.set_cons_zero, List.take_zero, List.nil_append] at hset
  obtain ⟨W2, hW2⟩ : ∃ W, W = W1.setCells q 0 cs.toArray.toList := ⟨_, rfl⟩
  have h2 : Own.St B w0 W2 (AVals q 62 cs :: (dkParts p ⟨aN, cN, aS, cS, .slice aP s.L.length cP, armed, lf⟩ s ++ Ps)) := by rw [hW2, List.toList_toArray]; exact hset
  have c1 := (h2.cellV 1 rfl 0 rfl).1
  rw [hcs] at h2
  have hsl := ok.len
  have hlb : s.L.length ≤ 100000 := by have := ok.log; have := ok.n; omega
  have h20 := h2.front 2 rfl
  unfold dkParts at h20
  simp only [List.cons_append, List.nil_append, List.eraseIdx_cons_succ, List.eraseIdx_cons_zero] at h20
  have CN := Lib.hid (cloneBlk h20 (byteV_one _) (by omega))
  have HROW := Lib.hid hrow
  have HZ := Lib.hid hz2
  have HI := Lib.hid (info_disk cs hcl)
  have HONE := Lib.hid hone
  have HW1 := Lib.hid hW1
  have HW2 := Lib.hid hW2
  have HQ := Lib.hid hq
  have HX := Lib.hid hx
  obtain ⟨G, hG⟩ : ∃ G, G = nowG s.safe s.L := ⟨_, rfl⟩
  rw [← hG] at CN
  have HG := Lib.hid hG
  obtain ⟨n, hn⟩ : ∃ n, n = s.safe.length := ⟨_, rfl⟩
  rw [← hn] at CN c1 hsl
  have HNN := Lib.hid hn
  clear H h hcl hone hrow hz1 hz2 hq hW1 hW2 hb hset h2 h20 ok hx hcs hG hn
  go_enter Try.func12, Try.ntmps12
  go_wp2_with (first
    | (refine wpList_load_row rfl 62 (.tmp 7) rfl p rfl 62 _ (0, 0) _ HROW.out Try.underlying62 rfl HI.out ?_)
    | (refine Own.wpList_allocZ rfl 62 rfl z HZ.out ?_; rw [← HQ.out, ← HW1.out])
    | (refine wpList_store_mid rfl 62 (.tmp 3) (.tmp 8) rfl q 0 cs.toArray rfl rfl TH.out HI.out HONE.out ?_; rw [← HW2.out]))
  refine CN.out.mono ?_
  clear CN HW1 HW2 HQ HROW TH HZ HI HONE c1
  rintro e w3 ⟨a3, c3, rfl, h3⟩
  have q1 := (h3.cellV 2 rfl 0 rfl)
  have h4 := h3.storeV 2 rfl 0 (.slice a3 n c3)
  have c2 := (h4.cellV 3 rfl 1 rfl).1
  simp only [List.set_cons_succ, List.set_cons_zero] at h4
  have h40 := h4.front 4 rfl
  simp only [List.eraseIdx_cons_succ, List.eraseIdx_cons_zero] at h40
  have CS := Lib.hid (cloneBlk h40 (byteV_one _) (by omega))
  clear h3 h4 h40
  go_wp2_with (fail)
  refine CS.out.mono ?_
  clear CS c2 q1
  rintro e w4 ⟨a4, c4, rfl, h4⟩
  have q2 := (h4.cellV 4 rfl 1 rfl)
  have h5 := h4.storeV 4 rfl 1 (.slice a4 n c4)
  have c3' := (h5.cellV 5 rfl 2 rfl).1
  simp only [List.set_cons_succ, List.set_cons_zero] at h5
  have h50 := h5.front 6 rfl
  simp only [List.eraseIdx_cons_succ, List.eraseIdx_cons_zero] at h50
  have CP := Lib.hid (cloneWr h50 (one_wrs s.L) (by omega))
  clear h4 h5 h50
  go_wp2_with (fail)
  refine CP.out.mono ?_
  clear CP c3' q2
  rintro e w5 ⟨a5, c5, rfl, h5⟩
  have q3 := (h5.cellV 6 rfl 2 rfl)
  have h7 := h5.storeV 6 rfl 2 (.slice a5 s.L.length c5)
  simp only [List.set_cons_succ, List.set_cons_zero] at h7
  have FIN : Hid (Own.St B w0 (w5.setCell ⟨q, 2, none⟩ (.slice a5 s.L.length c5)) (ADk q s :: ADk p s :: Ps)) := by
      have f1 := (h7.front 1 rfl)
      simp only [List.eraseIdx_cons_succ, List.eraseIdx_cons_zero] at f1
      have f2 := (f1.front 3 rfl)
      simp only [List.eraseIdx_cons_succ, List.eraseIdx_cons_zero] at f2
      have f3 := (f2.front 5 rfl)
      simp only [List.eraseIdx_cons_succ, List.eraseIdx_cons_zero] at f3
      have f4 := (f3.front 7 rfl)
      simp only [List.eraseIdx_cons_succ, List.eraseIdx_cons_zero] at f4
      have f5 := (f4.front 4 rfl)
      simp only [List.eraseIdx_cons_succ, List.eraseIdx_cons_zero] at f5
      have f6 := (f5.front 5 rfl)
      simp only [List.eraseIdx_cons_succ, List.eraseIdx_cons_zero] at f6
      have f7 := (f6.front 6 rfl)
      simp only [List.eraseIdx_cons_succ, List.eraseIdx_cons_zero] at f7
      have f8 := (f7.front 7 rfl)
      simp only [List.eraseIdx_cons_succ, List.eraseIdx_cons_zero] at f8
      rw [HG.out, HNN.out] at f8
      have g1 := dkClose (p := q) (s := s) (x := ⟨a3, c3, a4, c4, .slice a5 s.L.length c5, armed, lf⟩) ⟨HX.out.i64, HX.out.on, HX.out.pos⟩ f8
      have g2 := g1.perm (List.perm_append_comm (l₁ := [ADk q s]))
      have g3 := dkClose (p := p) (s := s) (x := ⟨aN, cN, aS, cS, .slice aP s.L.length cP, armed, lf⟩) (Ps := Ps ++ [ADk q s]) HX.out g2
      exact g3.perm ((List.perm_append_comm (l₁ := ADk p s :: Ps) (l₂ := [ADk q s])))
  clear h5 h7
  go_wp2
  go_ret
  exact ⟨q, rfl, FIN.out⟩

theorem new_no (num : Int) (H : Own.St B w0 w Ps) (hm : ¬ mayBe num = true) :
    Calls Try.prog 9 #[.int .i64 num] w fun e w' => e = .returned (.tuple #[.pointer none, errW 1]) ∧ Own.St B w0 w' Ps := by
  have H0 := Lib.hid H
  have hm2 : ¬ (0 ≤ num ∧ num ≤ 4096) := by simpa [mayBe] using hm
  clear H hm
  by_cases q1 : num < 0
  · clear hm2
    go_enter Try.func9, Try.ntmps9
    go_wp2
    go_ret2
    exact ⟨rfl, H0.out⟩
  have q2 : 4096 < num := by omega
  clear hm2
  go_enter Try.func9, Try.ntmps9
  go_wp2
  go_ret2
  exact ⟨rfl, H0.out⟩
set_option maxRecDepth 10000 in
set_option maxHeartbeats 1600000 in
theorem new_yes (S : Nat) (H : Own.St B w0 w Ps) (hS : S ≤ 4096) :
    Calls Try.prog 9 #[.int .i64 (S : Int)] w fun e w' => ∃ p, e = .returned (.tuple #[qtr p, errW 0]) ∧ Own.St B w0 w' (ADk p (fresh S) :: Ps) := by
  obtain ⟨bl, hbl⟩ : ∃ b, b = BakM.blank := ⟨_, rfl⟩
  have hz := zero_blk
  rw [← hbl] at hz
  obtain ⟨wA, gA, eA, hA⟩ := St.manyMake (zs := bl.map byteV) manyBlk hz rfl H.drew .i64 .i64 S (by omega) (by decide)
  obtain ⟨wB, gB, eB, hB⟩ := St.manyMake (zs := bl.map byteV) manyBlk hz rfl hA .i64 .i64 S (by omega) (by decide)
  have hfl : (List.replicate S (bl.map byteV)).flatten = ((List.replicate S bl).flatten.map byteV) := by rw [List.map_flatten, List.map_replicate]
  rw [hfl] at hB
  have FIN : Hid (∀ (g1 g2 : Nat) (wx : World), Own.St B w0 wx (AVals wB.heap.size 62 (dkCells (.slice (some ⟨g1, 0, none⟩) S S) (.slice (some ⟨g2, 0, none⟩) S S) (.slice none 0 0) 0 false false 0) :: ARow 65 256 (.slice (some ⟨g1, 0, none⟩) S S) S ((List.replicate S bl).flatten.map byteV) :: ARow 65 256 (.slice (some ⟨g2, 0, none⟩) S S) S ((List.replicate S bl).flatten.map byteV) :: Ps) → Own.St B w0 wx (ADk wB.heap.size (fresh S) :: Ps)) := by
    intro g1 g2 wx hst
    have h2 := hst.rowFresh (e := 68) (size := 257)
    refine dkClose (x := ⟨some ⟨g1, 0, none⟩, S, some ⟨g2, 0, none⟩, S, .slice none 0 0, false, 0⟩) ⟨by unfold i64A; simp, fun _ => ⟨fun h => (by cases h), fun _ => rfl⟩, fun h => (by cases h)⟩ ?_
    unfold dkParts fresh nowG bRow
    simp only [List.length_replicate, List.foldl_nil, List.length_nil, List.flatMap_nil]
    rw [← hbl]
    have h3 := h2.perm (List.Perm.swap _ _ _)
    have h4 := h3.perm ((List.Perm.swap _ _ _).cons _)
    exact h4.perm (((List.Perm.swap _ _ _).cons _).cons _)
  have HA := Lib.hid hB
  clear hbl hz hA hfl H hB
  go_enter Try.func9, Try.ntmps9
  go_wp2_with (fail)
  go_region
  all_goals
    go_wp2
    go_ret2
    refine ⟨wB.heap.size, rfl, ?_⟩
  · have hb := (HA.out.swap2).boxV 62 (dkCells (.slice (some ⟨gA, 0, none⟩) S S) (.slice (some ⟨gB, 0, none⟩) S S) (.slice none 0 0) 0 false false 0)
    exact FIN.out gA gB _ hb
  · have hb := (HA.out).boxV 62 (dkCells (.slice (some ⟨gB, 0, none⟩) S S) (.slice (some ⟨gA, 0, none⟩) S S) (.slice none 0 0) 0 false false 0)
    exact FIN.out gB gA _ hb
theorem new_any (num : Int) (H : Own.St B w0 w Ps) :
    Calls Try.prog 9 #[.int .i64 num] w fun e w' => if mayBe num = true then ∃ p, e = .returned (.tuple #[qtr p, errW 0]) ∧ Own.St B w0 w' (ADk p (fresh num.toNat) :: Ps) else e = .returned (.tuple #[.pointer none, errW 1]) ∧ Own.St B w0 w' Ps := by
  by_cases hm : mayBe num = true
  · have hm2 : 0 ≤ num ∧ num ≤ 4096 := by simpa [mayBe] using hm
    obtain ⟨S, hS⟩ : ∃ S : Nat, num = (S : Int) := ⟨num.toNat, by omega⟩
    subst hS
    refine (new_yes S H (by omega)).mono ?_
    intro e w' h
    rw [if_pos hm]
    exact h
  · refine (new_no num H hm).mono ?_
    intro e w' h
    rw [if_neg hm]
    exact h
end
noncomputable def kept (W : World) : Kept W where
  A := ADk
  new num _ H _ := new_any num H
  write pos ao n cap x _ H ok hN h1 hl hn := write_any H ok hN pos h1 ao n cap x hl hn
  barrier _ H ok hN := barrier_any H ok hN
  read pos _ H ok hN h := read_any H ok hN pos h
  cut after _ H _ _ h := cut_any H after h
  crash t _ H ok hN h := crash_any H ok hN t h
  copy _ H ok hN := copy_any H ok hN
  blocks _ H ok _ := blocks_any H ok
  dead _ H _ _ := dead_any H
  done _ H _ _ := doneK_any H
  nilWrite := nilWrite_any
  nilBarrier := nilBarrier_any
  nilRead := nilRead_any
  nilCut := nilCut_any
  nilCrash := nilCrash_any
  nilCopy := nilCopy_any
  nilBlocks := nilBlocks_any
  nilDead := nilDead_any
  nilDone := nilDone_any
end Bak
end Go.Proofs.Ytkddeccgoamopaa
