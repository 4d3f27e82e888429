/- The landed choose: the longest match out of some starts, the last one first. -/
import Derived.Test.YthmnaofmpijbiaaMatI
import Derived.Test.YthmnaofmpijbiaaMatN
import Derived.Test.YthmnaofmpijbiaaGiv
namespace Go.Proofs.Ythmnaofmpijbiaa
open Go.RowKit Go.Own Go.Shelf
attribute [local go_sem] Oper.semAt_some
namespace Mat
open Go.MatM Byt

theorem heap_al {W : World} {k : Nat} {o o' : Obj} (h : W.heap[k]? = some o) : (W.alloc o').heap[k]? = some o :=
  (Below.heap_alloc _ _ _ (Array.getElem?_eq_some_iff.1 h).1).trans h
theorem heap_set2 {W : World} {D : Nat} {o : Obj} (h : W.heap[D]? = some o) {p q : Addr} (hp : D ≠ p.block) (hq : D ≠ q.block) (u v : Value) : ((W.setCell p u).setCell q v).heap[D]? = some o := by
  rw [Below.heap_setCell _ _ _ _ hq, Below.heap_setCell _ _ _ _ hp]; exact h
theorem heap_put {W : World} {k D : Nat} {o o' : Obj} (h : W.heap[k]? = some o') (hn : D ≠ k) : (W.putObj D o).heap[k]? = some o' := by
  rw [World.putObj_heap_other hn.symm]; exact h
theorem below_drewN (B : Nat) (W : World) (q : Nat) : Below B W (W.drewN q) := ⟨rfl, rfl, rfl, Nat.le_refl _, fun _ _ => rfl⟩
theorem size_drewN' (W : World) (q : Nat) : (W.drewN q).heap.size = W.heap.size := rfl
/-- the cells of the call: bytes, place, result, distance, length, the most -/
def CB (w : World) (ao : Option Addr) (len cap t m d n : Nat) (W : World) : Prop :=
  Boxed W w.heap.size 22 (.slice ao len cap) ∧ Boxed W (w.heap.size + 1) 3 (.int .i64 (t : Int)) ∧ W.heap[w.heap.size + 1 + 1]? = some (.cells #[.int .i64 0, .int .i64 0] 36 (0, 0)) ∧
  Boxed W (w.heap.size + 1 + 1 + 1) 3 (.int .i64 (d : Int)) ∧ Boxed W (w.heap.size + 1 + 1 + 1 + 1) 3 (.int .i64 (n : Int)) ∧ Boxed W (w.heap.size + 1 + 1 + 1 + 1 + 1) 3 (.int .i64 (m : Int)) ∧ Below w.heap.size w W
theorem CB.kept {w W W' : World} {row : Option Nat} {ao : Option Addr} {len cap t m d n : Nat} (h : CB w ao len cap t m d n W) (hg : W.grownBy W' row) (hr : ∀ r, row = some r → w.heap.size + 7 ≤ r) : CB w ao len cap t m d n W' := by
  obtain ⟨h1, h2, h3, h4, h5, h6, h7⟩ := h
  have hne : ∀ k, k < w.heap.size + 7 → some k ≠ row := fun k hk e => by have := hr k e.symm; omega
  exact ⟨h1.kept hg (hne _ (by omega)), h2.kept hg (hne _ (by omega)), (hg.block _ (Array.getElem?_eq_some_iff.1 h3).1 (hne _ (by omega))).trans h3, h4.kept hg (hne _ (by omega)), h5.kept hg (hne _ (by omega)), h6.kept hg (hne _ (by omega)),
    h7.trans ((Below.refl _ W).grown hg h7.size (fun k e => by have := hr k e; omega))⟩
/-- the two are set -/
theorem CB.set {w W : World} {ao : Option Addr} {len cap t m d n : Nat} (d' n' : Nat) (h : CB w ao len cap t m d n W) : CB w ao len cap t m d' n' ((W.setCell ⟨w.heap.size + 1 + 1 + 1, 0, none⟩ (.int .i64 (d' : Int))).setCell ⟨w.heap.size + 1 + 1 + 1 + 1, 0, none⟩ (.int .i64 (n' : Int))) := by
  obtain ⟨h1, h2, h3, h4, h5, h6, h7⟩ := h
  have ot : ∀ k o, W.heap[k]? = some o → k ≠ w.heap.size + 1 + 1 + 1 → k ≠ w.heap.size + 1 + 1 + 1 + 1 → ((W.setCell ⟨w.heap.size + 1 + 1 + 1, 0, none⟩ (.int .i64 (d' : Int))).setCell ⟨w.heap.size + 1 + 1 + 1 + 1, 0, none⟩ (.int .i64 (n' : Int))).heap[k]? = some o := by
    intro k o ho g1 g2
    rw [Below.heap_setCell _ _ _ _ (fun e => g2 e), Below.heap_setCell _ _ _ _ (fun e => g1 e)]
    exact ho
  refine ⟨ot _ _ h1 (by omega) (by omega), ot _ _ h2 (by omega) (by omega), ot _ _ h3 (by omega) (by omega), ?_, ?_, ot _ _ h6 (by omega) (by omega), (h7.setCell (p := ⟨w.heap.size + 1 + 1 + 1, 0, none⟩) (by simp; omega) _).setCell (p := ⟨w.heap.size + 1 + 1 + 1 + 1, 0, none⟩) (by simp; omega) _⟩
  · have := h4.set (.int .i64 (d' : Int))
    unfold Boxed at this ⊢
    rw [Below.heap_setCell _ _ _ _ (by simp)]
    exact this
  · have h5' : Boxed (W.setCell ⟨w.heap.size + 1 + 1 + 1, 0, none⟩ (.int .i64 (d' : Int))) (w.heap.size + 1 + 1 + 1 + 1) 3 (.int .i64 (n : Int)) := by
      unfold Boxed
      rw [Below.heap_setCell _ _ _ _ (by simp)]
      exact h5
    exact h5'.set _

theorem _root_.Go.Boxed.drewN {W : World} {B : Nat} {t : TypeId} {v : Value} (h : Boxed W B t v) (q : Nat) : Boxed (W.drewN q) B t v := h
theorem CB.drewN {w W : World} {ao : Option Addr} {len cap t m d n : Nat} (h : CB w ao len cap t m d n W) (q : Nat) : CB w ao len cap t m d n (W.drewN q) :=
  ⟨h.1, h.2.1, h.2.2.1, h.2.2.2.1, h.2.2.2.2.1, h.2.2.2.2.2.1, h.2.2.2.2.2.2.trans (below_drewN _ _ q)⟩
theorem keeps_drewN (W : World) (q : Nat) : KeepsOthers W (W.drewN q) := ⟨Nat.le_refl _, fun _ _ h _ => h⟩
set_option maxRecDepth 100000 in
set_option maxHeartbeats 4000000 in
theorem choose_any (ao : Option Addr) (len cap t : Nat) (l : Bs) (v : Value) (zs : List Nat) (w : World) (hs : Slc w v zs) (hzl : zs.length ≤ 100000000) (hz : ∀ k ∈ zs, k < t) (htl : t < 1000000000)
    (CC : Hid (∀ wx, Below w.heap.size w wx → ∀ k : Nat, k ≤ t → Calls Try.prog 33 #[.slice ao len cap, .int .i64 (k : Int), .int .i64 (t : Int)] wx fun e w' => e = .returned (.int .i64 (com l k t : Nat)) ∧ ∃ q, w' = wx.drewN q)) :
    Calls Try.prog 29 #[.slice ao len cap, .int .i64 (t : Int), v] w fun e w' => e = .returned (.agg #[.int .i64 ((pick' l t zs.reverse).1 : Int), .int .i64 ((pick' l t zs.reverse).2 : Int)]) ∧ Below w.heap.size w w' := by
  obtain ⟨a2, c2, rfl, _⟩ := hs.form
  have HC := CC.out
  refine (callsIn_wide (n := 5)).1 ?_
  refine callsIn_of_wp_marks Try.func29 rfl trivial ?_ rfl
  simp only [Try.ntmps29, List.size_toArray, List.length_cons, List.length_nil, Nat.reduceAdd, Nat.reduceSub, Array.replicate_succ, Array.replicate_zero, List.push_toArray, List.append_toArray, List.nil_append, List.cons_append]
  have hB5 : Below w.heap.size w (((((w.alloc (.cells #[.slice ao len cap] 22)).alloc (.cells #[.int .i64 (t : Int)] 3)).alloc (.cells #[.int .i64 0, .int .i64 0] 36)).alloc (.cells #[.int .i64 0] 3)).alloc (.cells #[.int .i64 0] 3)) :=
    (((((Below.refl _ w).alloc (Nat.le_refl _) _).alloc (by simp) _).alloc (by simp; omega) _).alloc (by simp; omega) _).alloc (by simp; omega) _
  obtain ⟨m, hm⟩ : ∃ m, m = com l t t := ⟨_, rfl⟩
  have H1 := HC _ hB5 t (Nat.le_refl _)
  rw [← hm] at H1
  gi_wp2_with (first | (refine ⟨trivial, ?_⟩; gi_at_call 33; refine (callsIn_wide.2 H1).mono ?_; clear H1; rintro e w' ⟨rfl, q1, rfl⟩) | (refine ⟨trivial, ?_⟩; gi_at_call 34; refine (back_in Fence.wide _ trivial rfl _ _ _ _).mono ?_; rintro e w' ⟨rfl, rfl⟩))
  obtain ⟨W0, hW0⟩ : ∃ W0, ((((((((w.alloc (.cells #[.slice ao len cap] 22)).alloc (.cells #[.int .i64 (t : Int)] 3)).alloc (.cells #[.int .i64 0, .int .i64 0] 36)).alloc (.cells #[.int .i64 0] 3)).alloc (.cells #[.int .i64 0] 3)).drewN q1).alloc (.cells #[.int .i64 (com l t t : Int)] 3)).alloc (.cells #[.slice a2 zs.length c2] 46)) = W0 := ⟨_, rfl⟩
  have hsz : W0.heap.size = w.heap.size + 7 := by rw [← hW0]; simp
  have hB0 : Below w.heap.size w W0 := by
    rw [← hW0]
    exact (hB5.trans (((below_drewN _ _ q1).alloc (by simp; omega) _).alloc (by simp; omega) _))
  have hstart : CB w ao len cap t (com l t t) 0 0 W0 := by
    rw [← hW0]
    refine ⟨?_, ?_, ?_, ?_, ?_, ?_, ?_⟩
    · exact (((((((Boxed.new w _ _).alloc _).alloc _).alloc _).alloc _).drewN q1).alloc _).alloc _
    · have h := Boxed.new (w.alloc (.cells #[.slice ao len cap] 22)) 3 (.int .i64 (t : Int))
      rw [World.size_alloc] at h
      exact (((((h.alloc _).alloc _).alloc _).drewN q1).alloc _).alloc _
    · have h := World.alloc_heap_new ((w.alloc (.cells #[.slice ao len cap] 22)).alloc (.cells #[.int .i64 (t : Int)] 3)) (.cells #[.int .i64 0, .int .i64 0] 36 (0, 0))
      simp only [World.size_alloc, size_drewN'] at h
      exact heap_al (heap_al (o := .cells #[.int .i64 0, .int .i64 0] 36 (0, 0)) (heap_al (heap_al h)))
    · have h := Boxed.new (((w.alloc (.cells #[.slice ao len cap] 22)).alloc (.cells #[.int .i64 (t : Int)] 3)).alloc (.cells #[.int .i64 0, .int .i64 0] 36)) 3 (.int .i64 0)
      simp only [World.size_alloc, size_drewN'] at h
      exact (((h.alloc _).drewN q1).alloc _).alloc _
    · have h := Boxed.new ((((w.alloc (.cells #[.slice ao len cap] 22)).alloc (.cells #[.int .i64 (t : Int)] 3)).alloc (.cells #[.int .i64 0, .int .i64 0] 36)).alloc (.cells #[.int .i64 0] 3)) 3 (.int .i64 0)
      simp only [World.size_alloc, size_drewN'] at h
      exact ((h.drewN q1).alloc _).alloc _
    · have h := Boxed.new ((((((w.alloc (.cells #[.slice ao len cap] 22)).alloc (.cells #[.int .i64 (t : Int)] 3)).alloc (.cells #[.int .i64 0, .int .i64 0] 36)).alloc (.cells #[.int .i64 0] 3)).alloc (.cells #[.int .i64 0] 3)).drewN q1) 3 (.int .i64 (com l t t : Int))
      simp only [World.size_alloc, size_drewN'] at h
      exact h.alloc _
    · rw [hW0]; exact hB0
  have hbox : W0.cell? ⟨w.heap.size + 1 + 1 + 1 + 1 + 1 + 1, 0, none⟩ = some (.slice a2 zs.length c2) := by
    have h := Boxed.new (((((((w.alloc (.cells #[.slice ao len cap] 22)).alloc (.cells #[.int .i64 (t : Int)] 3)).alloc (.cells #[.int .i64 0, .int .i64 0] 36)).alloc (.cells #[.int .i64 0] 3)).alloc (.cells #[.int .i64 0] 3)).drewN q1).alloc (.cells #[.int .i64 (com l t t : Int)] 3)) 46 (.slice a2 zs.length c2)
    simp only [World.size_alloc, size_drewN'] at h
    rw [← hW0]
    exact h.cell
  rw [hW0]
  clear hB5
  refine wpIn_rangeFunc_ownG rfl (by decide) (gf := 37) (lb := #[.pointer (some ⟨w.heap.size + 1 + 1 + 1 + 1 + 1 + 1, 0, none⟩)]) rfl trivial (enters_of Try.func37 (by kernel_rfl) rfl)
    (back_stops Fence.wide _ trivial rfl (by decide) (w.heap.size + 1 + 1 + 1 + 1 + 1 + 1) w.heap.size _ zs (by omega) W0 (by omega) (by omega) hbox (hs.later hB0) hs.lt) (fun h k => h.trans k)
    (fun W l o o' hl h h1 h2 => ⟨belowK_b (w := W0) (by omega) W l o o' hl h h1 h2, World.putObj_heap_other (by omega)⟩) (Below.refl _ _) (fun _ => rfl)
    (fun pre W => CB w ao len cap t (com l t t) (pick' l t (pre.map (fun i : Fin zs.length => zs.getD i.1 0))).1 (pick' l t (pre.map (fun i : Fin zs.length => zs.getD i.1 0))).2 W)
    (fun c pre W => c = .exit 0 ∧ (pick' l t (pre.map (fun i : Fin zs.length => zs.getD i.1 0))).2 = com l t t ∧ CB w ao len cap t (com l t t) (pick' l t (pre.map (fun i : Fin zs.length => zs.getD i.1 0))).1 (pick' l t (pre.map (fun i : Fin zs.length => zs.getD i.1 0))).2 W)
    (fun pre W W' row hs hg hr => CB.kept hs hg (fun r e => by have := (hr r e).1; omega))
    (fun c pre W W' row hs hg hr => ⟨hs.1, hs.2.1, CB.kept hs.2.2 hg (fun r e => by have := (hr r e).1; omega)⟩)
    (by simpa [pick'] using hstart)
    (fun x => { tmps := #[Value.slice ao len cap, Value.int IntKind.i64 t, Value.slice a2 zs.length c2, Value.pointer (some ⟨w.heap.size, 0, none⟩), Value.pointer (some ⟨w.heap.size + 1, 0, none⟩), undef, Value.pointer (some ⟨w.heap.size + 1 + 1, 0, none⟩), Value.pointer (some ⟨w.heap.size + 1 + 1 + 1, 0, none⟩), Value.pointer (some ⟨w.heap.size + 1 + 1 + 1 + 1, 0, none⟩), Value.pointer (some ⟨w.heap.size + 1 + 1 + 1 + 1 + 1, 0, none⟩), undef, .int .i64 (zs[x.1] : Int), undef, Value.slice ao len cap, Value.int IntKind.i64 t, Value.int IntKind.i64 t, Value.int IntKind.i64 (com l t t), Value.slice a2 zs.length c2, Value.func (Fn.func 37) #[] #[Value.pointer (some ⟨w.heap.size + 1 + 1 + 1 + 1 + 1 + 1, 0, none⟩)], Value.int .i64 (x.1 : Int), .int .i64 (zs[x.1] : Int), undef, undef, undef, undef, undef, undef, undef, undef, undef, undef, undef, undef, undef, undef, undef, undef, undef], defers := [] }) ?assign ?body ?done ?stop
  case assign =>
    intro l x W K hK
    gi_wp2
    exact hK
  case body =>
    rintro l' pre x W hI _
    obtain ⟨d, n, hdn⟩ : ∃ d n, (d, n) = pick' l t (pre.map (fun i : Fin zs.length => zs.getD i.1 0)) := ⟨_, _, rfl⟩
    obtain ⟨k, hk⟩ : ∃ k, k = zs[x.1] := ⟨_, rfl⟩
    have hkt : k < t := hz k (by rw [hk]; exact List.getElem_mem _)
    have hps : pick' l t ((pre ++ [x]).map (fun i => zs.getD i.1 0)) = pstep l t (d, n) k := by rw [List.map_append, List.map_singleton, pick_snoc, ← hdn]; congr 1; rw [hk]; simp
    rw [← hdn] at hI
    simp only at hI
    rw [← hk]
    have hBW := hI.2.2.2.2.2.2
    have H2 := HC _ hBW k (by omega)
    obtain ⟨c, hc⟩ : ∃ c, c = com l k t := ⟨_, rfl⟩
    obtain ⟨m, hm⟩ : ∃ m, m = com l t t := ⟨_, rfl⟩
    rw [← hc] at H2
    rw [← hm] at hI ⊢
    have hn130 : n ≤ 130 := by have := pick_le l t (pre.map (fun i : Fin zs.length => zs.getD i.1 0)) (by intro k hk; rw [List.mem_map] at hk; obtain ⟨i, _, rfl⟩ := hk; exact hz _ (by simp)); rw [← hdn] at this; exact this.2
    have hc130 : c ≤ 130 := by rw [hc]; exact com_le l k t
    have hm130 : m ≤ 130 := by rw [hm]; exact com_le l t t
    obtain ⟨g1, g2, g3, g4, g5, g6, g7⟩ := id hI
    have c1 := g1.cell
    have c2 := g2.cell
    have c4 := g4.cell
    have c5 := g5.cell
    have c6 := g6.cell
    have f4 := g4.frozen
    have f5 := g5.frozen
    have HI := Lib.hid hI
    have HBW := Lib.hid hBW
    have HP := Lib.hid hps
    have HCC := Lib.hid hc
    have HH2 := Lib.hid H2
    clear hI hBW hps hc hm hdn hk H2 HC CC g1 g2 g3 g4 g5 g6 g7 hs hz hsz hB0 hstart hbox hW0
    by_cases hlt : n < c
    · have e1 : pick' l t ((pre ++ [x]).map (fun i : Fin zs.length => zs.getD i.1 0)) = (t - k, c) := by rw [HP.out]; unfold pstep; rw [← HCC.out]; exact if_pos hlt
      have fin : ∀ q, CB w ao len cap t m (t - k) c (((W.drewN q).setCell ⟨w.heap.size + 1 + 1 + 1, 0, none⟩ (.int .i64 ((t : Int) - (k : Int)))).setCell ⟨w.heap.size + 1 + 1 + 1 + 1, 0, none⟩ (.int .i64 (c : Int))) := by
        intro q
        have h := (HI.out.drewN q).set (t - k) c
        rw [show ((t - k : Nat) : Int) = (t : Int) - (k : Int) by omega] at h
        exact h
      have KF : ∀ q, KeepsFrom W0.heap.size W (((W.drewN q).setCell ⟨w.heap.size + 1 + 1 + 1, 0, none⟩ (.int .i64 ((t : Int) - (k : Int)))).setCell ⟨w.heap.size + 1 + 1 + 1 + 1, 0, none⟩ (.int .i64 (c : Int))) :=
        fun q => (((keeps_drewN W q).trans (KeepsOthers.setCell _ _ _)).trans (KeepsOthers.setCell _ _ _)).from _
      have KW : ∀ q, KB w.heap.size (w.heap.size + 1 + 1 + 1 + 1 + 1 + 1) W (((W.drewN q).setCell ⟨w.heap.size + 1 + 1 + 1, 0, none⟩ (.int .i64 ((t : Int) - (k : Int)))).setCell ⟨w.heap.size + 1 + 1 + 1 + 1, 0, none⟩ (.int .i64 (c : Int))) :=
        fun q => ⟨((below_drewN _ _ q).setCell (p := ⟨w.heap.size + 1 + 1 + 1, 0, none⟩) (by simp; omega) _).setCell (p := ⟨w.heap.size + 1 + 1 + 1 + 1, 0, none⟩) (by simp; omega) _, (Below.heap_setCell _ _ _ _ (by simp; omega)).trans (Below.heap_setCell _ _ _ _ (by simp; omega))⟩
      have HE := Lib.hid e1
      have HF := Lib.hid (fun q => And.intro (fin q) (And.intro (KF q) (KW q)))
      clear e1 fin KF KW
      gi_wp2_with (refine ⟨trivial, ?_⟩; gi_at_call 33; refine (CallsIn.inRound l' (callsIn_wide.2 HH2.out)).mono ?_; rintro e w' ⟨rfl, q, rfl⟩)
      · rename_i hcm
        simp only [beq_iff_eq] at hcm
        obtain ⟨fin, KF, KW⟩ := HF.out q
        refine ⟨KF, rfl, ?_, ?_⟩
        · rw [HE.out]; simp only; omega
        · rw [HE.out]; exact fin
      · obtain ⟨fin, KF, KW⟩ := HF.out q
        refine ⟨KF, KW, ?_⟩
        simp only [HE.out]
        exact fin
    · have e1 : pick' l t ((pre ++ [x]).map (fun i : Fin zs.length => zs.getD i.1 0)) = (d, n) := by rw [HP.out]; unfold pstep; rw [← HCC.out]; exact if_neg hlt
      have HE := Lib.hid e1
      clear e1
      gi_wp2_with (refine ⟨trivial, ?_⟩; gi_at_call 33; refine (CallsIn.inRound l' (callsIn_wide.2 HH2.out)).mono ?_; rintro e w' ⟨rfl, q, rfl⟩)
      · rename_i hcm
        simp only [beq_iff_eq] at hcm
        refine ⟨(keeps_drewN W q).from _, rfl, ?_, ?_⟩
        · rw [HE.out]; simp only; omega
        · rw [HE.out]; exact HI.out.drewN q
      · refine ⟨(keeps_drewN W q).from _, ⟨below_drewN _ _ q, rfl⟩, ?_⟩
        simp only [HE.out]
        exact HI.out.drewN q
  case done =>
    rintro D ys W hD hys hI hK
    rw [hys] at hI
    obtain ⟨d, n, hdn⟩ : ∃ d n, (d, n) = pick' l t zs.reverse := ⟨_, _, rfl⟩
    rw [← hdn] at hI
    obtain ⟨g1, g2, g3, g4, g5, g6, g7⟩ := id hI
    have c4 := g4.cell
    have c5 := g5.cell
    have ca : W.cell? ⟨w.heap.size + 1 + 1, 0, none⟩ = some (.int .i64 0) := cell_of_block g3 rfl
    have cb : W.cell? ⟨w.heap.size + 1 + 1, 1, none⟩ = some (.int .i64 0) := cell_of_block g3 rfl
    have fa : W.frozen? ⟨w.heap.size + 1 + 1, 0, none⟩ = false := frozen_of_block g3
    have fb : W.frozen? ⟨w.heap.size + 1 + 1, 1, none⟩ = false := frozen_of_block g3
    have HG := Lib.hid (And.intro g3 g7)
    have HI := Lib.hid hI
    have HD := Lib.hid hdn
    have HK := Lib.hid hK
    have HSZ := Lib.hid (And.intro hD hsz)
    clear hD
    clear hI hdn hK g1 g2 g3 g4 g5 g6 g7
    gi_wp2
    have hD2 : D ≠ w.heap.size + 1 + 1 := by have := HSZ.out; omega
    have hK2 := heap_set2 HK.out (p := ⟨w.heap.size + 1 + 1, 0, none⟩) (q := ⟨w.heap.size + 1 + 1, 1, none⟩) hD2 hD2 (.int .i64 (d : Int)) (.int .i64 (n : Int))
    refine ⟨by simp, .inl ⟨_, _, rfl, run_takeDeferred hK2, ?_⟩⟩
    have hb3 := belowK_b (w := W0) (n₀ := w.heap.size) (by have := HSZ.out; omega) _ D _ (.deferred none) HSZ.out.1 hK2 rfl rfl
    clear hK2
    have h2 := heap_put (D := D) (o := .deferred none) (block_setCell (i := 1) (block_setCell (i := 0) HG.out.1 (.int .i64 (d : Int))) (.int .i64 (n : Int))) hD2
    have hb2 := (((HG.out.2.setCell (p := ⟨w.heap.size + 1 + 1, 0, none⟩) (by simp; omega) (.int .i64 (d : Int))).setCell (p := ⟨w.heap.size + 1 + 1, 1, none⟩) (by simp; omega) (.int .i64 (n : Int))).trans hb3)
    clear hb3
    generalize ((W.setCell _ _).setCell _ _).putObj D _ = W2 at h2 hb2 ⊢
    have c0 := cell_of_block (i := 0) h2 rfl
    have c1 := cell_of_block (i := 1) h2 rfl
    refine ⟨.agg #[.int .i64 (d : Int), .int .i64 (n : Int)], ?_, ?_, hb2⟩
    · simp [results, Try.f29, go_sem, c0, c1]
    · rw [← HD.out]
  case stop =>
    rintro D c pre W hD ⟨k, hk, hpre⟩ ⟨rfl, hfull, hI⟩ hK
    have hfin : pick' l t zs.reverse = pick' l t (pre.map (fun i : Fin zs.length => zs.getD i.1 0)) := by
      rw [hpre] at hfull ⊢
      conv => lhs; rw [← List.take_append_drop k zs.reverse]
      exact pick_full l t _ _ hfull
    rw [← hfin] at hI
    clear hfin
    obtain ⟨d, n, hdn⟩ : ∃ d n, (d, n) = pick' l t zs.reverse := ⟨_, _, rfl⟩
    rw [← hdn] at hI
    obtain ⟨g1, g2, g3, g4, g5, g6, g7⟩ := id hI
    have c4 := g4.cell
    have c5 := g5.cell
    have ca : W.cell? ⟨w.heap.size + 1 + 1, 0, none⟩ = some (.int .i64 0) := cell_of_block g3 rfl
    have cb : W.cell? ⟨w.heap.size + 1 + 1, 1, none⟩ = some (.int .i64 0) := cell_of_block g3 rfl
    have fa : W.frozen? ⟨w.heap.size + 1 + 1, 0, none⟩ = false := frozen_of_block g3
    have fb : W.frozen? ⟨w.heap.size + 1 + 1, 1, none⟩ = false := frozen_of_block g3
    have HG := Lib.hid (And.intro g3 g7)
    have HI := Lib.hid hI
    have HD := Lib.hid hdn
    have HK := Lib.hid hK
    have HSZ := Lib.hid (And.intro hD hsz)
    clear hD
    clear hI hdn hK g1 g2 g3 g4 g5 g6 g7
    gi_wp2
    have hD2 : D ≠ w.heap.size + 1 + 1 := by have := HSZ.out; omega
    have hK2 := heap_set2 HK.out (p := ⟨w.heap.size + 1 + 1, 0, none⟩) (q := ⟨w.heap.size + 1 + 1, 1, none⟩) hD2 hD2 (.int .i64 (d : Int)) (.int .i64 (n : Int))
    refine ⟨by simp, .inl ⟨_, _, rfl, run_takeDeferred hK2, ?_⟩⟩
    have hb3 := belowK_b (w := W0) (n₀ := w.heap.size) (by have := HSZ.out; omega) _ D _ (.deferred none) HSZ.out.1 hK2 rfl rfl
    clear hK2
    have h2 := heap_put (D := D) (o := .deferred none) (block_setCell (i := 1) (block_setCell (i := 0) HG.out.1 (.int .i64 (d : Int))) (.int .i64 (n : Int))) hD2
    have hb2 := (((HG.out.2.setCell (p := ⟨w.heap.size + 1 + 1, 0, none⟩) (by simp; omega) (.int .i64 (d : Int))).setCell (p := ⟨w.heap.size + 1 + 1, 1, none⟩) (by simp; omega) (.int .i64 (n : Int))).trans hb3)
    clear hb3
    generalize ((W.setCell _ _).setCell _ _).putObj D _ = W2 at h2 hb2 ⊢
    have c0 := cell_of_block (i := 0) h2 rfl
    have c1 := cell_of_block (i := 1) h2 rfl
    refine ⟨.agg #[.int .i64 (d : Int), .int .i64 (n : Int)], ?_, ?_, hb2⟩
    · simp [results, Try.f29, go_sem, c0, c1]
    · rw [← HD.out]
end Mat
end Go.Proofs.Ythmnaofmpijbiaa
