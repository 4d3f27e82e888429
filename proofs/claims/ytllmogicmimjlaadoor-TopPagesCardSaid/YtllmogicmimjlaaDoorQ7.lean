/- Merged: MatJ MatL MatT MatO MatP MatW MatQ MatX LzO LzW TopB KecM KecR KecF KecD KecL -/
import Derived.BigQuiet
import Derived.Laws.Cover3
import Derived.Laws.OwnMore
import Derived.Lib.SlBytesConst
import Derived.Deep.QuietTactic
import Derived.Test.YtllmogicmimjlaaDoorRows
import Derived.WalkKit
import Derived.Lib.Hide
import Derived.Laws.BitsAllLaws
import Derived.WalkLawsBesides
import Derived.Laws.Rows
import Derived.Deep.MidRow
import Derived.Test.YtllmogicmimjlaaDoorQ1
import Derived.Test.YtllmogicmimjlaaDoorQ2
import Derived.Test.YtllmogicmimjlaaDoorQ4
import Derived.Test.YtllmogicmimjlaaDoorQ5
import Derived.Test.YtllmogicmimjlaaDoorQ6
set_option linter.unusedVariables false
section
namespace Go.Proofs.YtllmogicmimjlaaDoor
open Go.RowKit Go.Own Go.Shelf
attribute [local go_sem] Oper.semAt_some
namespace Mat
open Go.MatM Byt

theorem heap_al {W : World} {k : Nat} {o o' : Obj} (h : W.heap[k]? = some o) : (W.alloc o').heap[k]? = some o :=
  (Below.heap_alloc _ _ _ (Array.getElem?_eq_some_iff.1 h).1).trans h
theorem heap_set2 {W : World} {D : Nat} {o : Obj} (h : W.heap[D]? = some o) {p q : Addr} (hp : D ≠ p.block) (hq : D ≠ q.block) (u v : Value) : ((W.setCell p u).setCell q v).heap[D]? = some o := by
  rw [Below.heap_setCell _ _ _ _ hq, Below.heap_setCell _ _ _ _ hp]; exact h
theorem heap_put {W : World} {k D : Nat} {o o' : Obj} (h : W.heap[k]? = some o') (hn : D ≠ k) : (W.putObj D o).heap[k]? = some o' := by
  rw [World.putObj_heap_other hn.symm]; exact h
theorem below_drewN (B : Nat) (W : World) (q : Nat) : Below B W (W.drewN q) := ⟨rfl, rfl, rfl, Nat.le_refl _, fun _ _ => rfl⟩
theorem size_drewN' (W : World) (q : Nat) : (W.drewN q).heap.size = W.heap.size := rfl
/-- the cells of the call: bytes, place, result, distance, length, the most -/
def CB (w : World) (ao : Option Addr) (len cap t m d n : Nat) (W : World) : Prop :=
  Boxed W w.heap.size 22 (.slice ao len cap) ∧ Boxed W (w.heap.size + 1) 3 (.int .i64 (t : Int)) ∧ W.heap[w.heap.size + 1 + 1]? = some (.cells #[.int .i64 0, .int .i64 0] 73 (0, 0)) ∧
  Boxed W (w.heap.size + 1 + 1 + 1) 3 (.int .i64 (d : Int)) ∧ Boxed W (w.heap.size + 1 + 1 + 1 + 1) 3 (.int .i64 (n : Int)) ∧ Boxed W (w.heap.size + 1 + 1 + 1 + 1 + 1) 3 (.int .i64 (m : Int)) ∧ Below w.heap.size w W
theorem CB.kept {w W W' : World} {row : Option Nat} {ao : Option Addr} {len cap t m d n : Nat} (h : CB w ao len cap t m d n W) (hg : W.grownBy W' row) (hr : ∀ r, row = some r → w.heap.size + 7 ≤ r) : CB w ao len cap t m d n W' := by
  obtain ⟨h1, h2, h3, h4, h5, h6, h7⟩ := h
  have hne : ∀ k, k < w.heap.size + 7 → some k ≠ row := fun k hk e => by have := hr k e.symm; omega
  exact ⟨h1.kept hg (hne _ (by omega)), h2.kept hg (hne _ (by omega)), (hg.block _ (Array.getElem?_eq_some_iff.1 h3).1 (hne _ (by omega))).trans h3, h4.kept hg (hne _ (by omega)), h5.kept hg (hne _ (by omega)), h6.kept hg (hne _ (by omega)),
    h7.trans ((Below.refl _ W).grown hg h7.size (fun k e => by have := hr k e; omega))⟩
/-- the two are set -/
theorem CB.set {w W : World} {ao : Option Addr} {len cap t m d n : Nat} (d' n' : Nat) (h : CB w ao len cap t m d n W) : CB w ao len cap t m d' n' ((W.setCell ⟨w.heap.size + 1 + 1 + 1, 0, none⟩ (.int .i64 (d' : Int))).setCell ⟨w.heap.size + 1 + 1 + 1 + 1, 0, none⟩ (.int .i64 (n' : Int))) := by
  obtain ⟨h1, h2, h3, h4, h5, h6, h7⟩ := h
  have ot : ∀ k o, W.heap[k]? = some o → k ≠ w.heap.size + 1 + 1 + 1 → k ≠ w.heap.size + 1 + 1 + 1 + 1 → ((W.setCell ⟨w.heap.size + 1 + 1 + 1, 0, none⟩ (.int .i64 (d' : Int))).setCell ⟨w.heap.size + 1 + 1 + 1 + 1, 0, none⟩ (.int .i64 (n' : Int))).heap[k]? = some o := by
    intro k o ho g1 g2
    rw [Below.heap_setCell _ _ _ _ (fun e => g2 e), Below.heap_setCell _ _ _ _ (fun e => g1 e)]
    exact ho
  refine ⟨ot _ _ h1 (by omega) (by omega), ot _ _ h2 (by omega) (by omega), ot _ _ h3 (by omega) (by omega), ?_, ?_, ot _ _ h6 (by omega) (by omega), (h7.setCell (p := ⟨w.heap.size + 1 + 1 + 1, 0, none⟩) (by simp; omega) _).setCell (p := ⟨w.heap.size + 1 + 1 + 1 + 1, 0, none⟩) (by simp; omega) _⟩
  · have := h4.set (.int .i64 (d' : Int))
    unfold Boxed at this ⊢
    rw [Below.heap_setCell _ _ _ _ (by simp)]
    exact this
  · have h5' : Boxed (W.setCell ⟨w.heap.size + 1 + 1 + 1, 0, none⟩ (.int .i64 (d' : Int))) (w.heap.size + 1 + 1 + 1 + 1) 3 (.int .i64 (n : Int)) := by
      unfold Boxed
      rw [Below.heap_setCell _ _ _ _ (by simp)]
      exact h5
    exact h5'.set _

theorem _root_.Go.Boxed.drewN {W : World} {B : Nat} {t : TypeId} {v : Value} (h : Boxed W B t v) (q : Nat) : Boxed (W.drewN q) B t v := h
theorem CB.drewN {w W : World} {ao : Option Addr} {len cap t m d n : Nat} (h : CB w ao len cap t m d n W) (q : Nat) : CB w ao len cap t m d n (W.drewN q) :=
  ⟨h.1, h.2.1, h.2.2.1, h.2.2.2.1, h.2.2.2.2.1, h.2.2.2.2.2.1, h.2.2.2.2.2.2.trans (below_drewN _ _ q)⟩
theorem keeps_drewN (W : World) (q : Nat) : KeepsOthers W (W.drewN q) := ⟨Nat.le_refl _, fun _ _ h _ => h⟩
set_option maxRecDepth 100000 in
set_option maxHeartbeats 4000000 in
theorem choose_any (ao : Option Addr) (len cap t : Nat) (l : Bs) (v : Value) (zs : List Nat) (w : World) (hs : Slc w v zs) (hzl : zs.length ≤ 100000000) (hz : ∀ k ∈ zs, k < t) (htl : t < 1000000000)
    (CC : Hid (∀ wx, Below w.heap.size w wx → ∀ k : Nat, k ≤ t → Calls Tryd.prog 57 #[.slice ao len cap, .int .i64 (k : Int), .int .i64 (t : Int)] wx fun e w' => e = .returned (.int .i64 (com l k t : Nat)) ∧ ∃ q, w' = wx.drewN q)) :
    Calls Tryd.prog 53 #[.slice ao len cap, .int .i64 (t : Int), v] w fun e w' => e = .returned (.agg #[.int .i64 ((pick' l t zs.reverse).1 : Int), .int .i64 ((pick' l t zs.reverse).2 : Int)]) ∧ Below w.heap.size w w' := by
  obtain ⟨a2, c2, rfl, _⟩ := hs.form
  have HC := CC.out
  refine (callsIn_wide (n := 5)).1 ?_
  refine callsIn_of_wp_marks Tryd.func53 rfl trivial ?_ rfl
  simp only [Tryd.ntmps53, List.size_toArray, List.length_cons, List.length_nil, Nat.reduceAdd, Nat.reduceSub, Array.replicate_succ, Array.replicate_zero, List.push_toArray, List.append_toArray, List.nil_append, List.cons_append]
  have hB5 : Below w.heap.size w (((((w.alloc (.cells #[.slice ao len cap] 22)).alloc (.cells #[.int .i64 (t : Int)] 3)).alloc (.cells #[.int .i64 0, .int .i64 0] 73)).alloc (.cells #[.int .i64 0] 3)).alloc (.cells #[.int .i64 0] 3)) :=
    (((((Below.refl _ w).alloc (Nat.le_refl _) _).alloc (by simp) _).alloc (by simp; omega) _).alloc (by simp; omega) _).alloc (by simp; omega) _
  obtain ⟨m, hm⟩ : ∃ m, m = com l t t := ⟨_, rfl⟩
  have H1 := HC _ hB5 t (Nat.le_refl _)
  rw [← hm] at H1
  gi_wp2_with (first | (refine ⟨trivial, ?_⟩; gi_at_call 57; refine (callsIn_wide.2 H1).mono ?_; clear H1; rintro e w' ⟨rfl, q1, rfl⟩) | (refine ⟨trivial, ?_⟩; gi_at_call 58; refine (back_in Fence.wide _ trivial rfl _ _ _ _).mono ?_; rintro e w' ⟨rfl, rfl⟩))
  obtain ⟨W0, hW0⟩ : ∃ W0, ((((((((w.alloc (.cells #[.slice ao len cap] 22)).alloc (.cells #[.int .i64 (t : Int)] 3)).alloc (.cells #[.int .i64 0, .int .i64 0] 73)).alloc (.cells #[.int .i64 0] 3)).alloc (.cells #[.int .i64 0] 3)).drewN q1).alloc (.cells #[.int .i64 (com l t t : Int)] 3)).alloc (.cells #[.slice a2 zs.length c2] 100)) = W0 := ⟨_, rfl⟩
  have hsz : W0.heap.size = w.heap.size + 7 := by rw [← hW0]; simp
  have hB0 : Below w.heap.size w W0 := by
    rw [← hW0]
    exact (hB5.trans (((below_drewN _ _ q1).alloc (by simp; omega) _).alloc (by simp; omega) _))
  have hstart : CB w ao len cap t (com l t t) 0 0 W0 := by
    rw [← hW0]
    refine ⟨?_, ?_, ?_, ?_, ?_, ?_, ?_⟩
    · exact (((((((Boxed.new w _ _).alloc _).alloc _).alloc _).alloc _).drewN q1).alloc _).alloc _
    · have h := Boxed.new (w.alloc (.cells #[.slice ao len cap] 22)) 3 (.int .i64 (t : Int))
      rw [World.size_alloc] at h
      exact (((((h.alloc _).alloc _).alloc _).drewN q1).alloc _).alloc _
    · have h := World.alloc_heap_new ((w.alloc (.cells #[.slice ao len cap] 22)).alloc (.cells #[.int .i64 (t : Int)] 3)) (.cells #[.int .i64 0, .int .i64 0] 73 (0, 0))
      simp only [World.size_alloc] at h
      exact heap_al (heap_al (o := .cells #[.int .i64 0, .int .i64 0] 73 (0, 0)) (heap_al (heap_al h)))
    · have h := Boxed.new (((w.alloc (.cells #[.slice ao len cap] 22)).alloc (.cells #[.int .i64 (t : Int)] 3)).alloc (.cells #[.int .i64 0, .int .i64 0] 73)) 3 (.int .i64 0)
      simp only [World.size_alloc] at h
      exact (((h.alloc _).drewN q1).alloc _).alloc _
    · have h := Boxed.new ((((w.alloc (.cells #[.slice ao len cap] 22)).alloc (.cells #[.int .i64 (t : Int)] 3)).alloc (.cells #[.int .i64 0, .int .i64 0] 73)).alloc (.cells #[.int .i64 0] 3)) 3 (.int .i64 0)
      simp only [World.size_alloc] at h
      exact ((h.drewN q1).alloc _).alloc _
    · have h := Boxed.new ((((((w.alloc (.cells #[.slice ao len cap] 22)).alloc (.cells #[.int .i64 (t : Int)] 3)).alloc (.cells #[.int .i64 0, .int .i64 0] 73)).alloc (.cells #[.int .i64 0] 3)).alloc (.cells #[.int .i64 0] 3)).drewN q1) 3 (.int .i64 (com l t t : Int))
      simp only [World.size_alloc, size_drewN'] at h
      exact h.alloc _
    · rw [hW0]; exact hB0
  have hbox : W0.cell? ⟨w.heap.size + 1 + 1 + 1 + 1 + 1 + 1, 0, none⟩ = some (.slice a2 zs.length c2) := by
    have h := Boxed.new (((((((w.alloc (.cells #[.slice ao len cap] 22)).alloc (.cells #[.int .i64 (t : Int)] 3)).alloc (.cells #[.int .i64 0, .int .i64 0] 73)).alloc (.cells #[.int .i64 0] 3)).alloc (.cells #[.int .i64 0] 3)).drewN q1).alloc (.cells #[.int .i64 (com l t t : Int)] 3)) 100 (.slice a2 zs.length c2)
    simp only [World.size_alloc, size_drewN'] at h
    rw [← hW0]
    exact h.cell
  rw [hW0]
  clear hB5
  refine wpIn_rangeFunc_ownG rfl (by decide) (gf := 66) (lb := #[.pointer (some ⟨w.heap.size + 1 + 1 + 1 + 1 + 1 + 1, 0, none⟩)]) rfl trivial (enters_of Tryd.func66 (by kernel_rfl) rfl)
    (back_stops Fence.wide _ trivial rfl (by decide) (w.heap.size + 1 + 1 + 1 + 1 + 1 + 1) w.heap.size _ zs (by omega) W0 (by omega) (by omega) hbox (hs.later hB0) hs.lt) (fun h k => h.trans k)
    (fun W l o o' hl h h1 h2 => ⟨belowK_b (w := W0) (by omega) W l o o' hl h h1 h2, World.putObj_heap_other (by omega)⟩) (Below.refl _ _) (fun _ => rfl)
    (fun pre W => CB w ao len cap t (com l t t) (pick' l t (pre.map (fun i : Fin zs.length => zs.getD i.1 0))).1 (pick' l t (pre.map (fun i : Fin zs.length => zs.getD i.1 0))).2 W)
    (fun c pre W => c = .exit 0 ∧ (pick' l t (pre.map (fun i : Fin zs.length => zs.getD i.1 0))).2 = com l t t ∧ CB w ao len cap t (com l t t) (pick' l t (pre.map (fun i : Fin zs.length => zs.getD i.1 0))).1 (pick' l t (pre.map (fun i : Fin zs.length => zs.getD i.1 0))).2 W)
    (fun pre W W' row hs hg hr => CB.kept hs hg (fun r e => by have := (hr r e).1; omega))
    (fun c pre W W' row hs hg hr => ⟨hs.1, hs.2.1, CB.kept hs.2.2 hg (fun r e => by have := (hr r e).1; omega)⟩)
    (by simpa [pick'] using hstart)
    (fun x => { tmps := #[Value.slice ao len cap, Value.int IntKind.i64 t, Value.slice a2 zs.length c2, Value.pointer (some ⟨w.heap.size, 0, none⟩), Value.pointer (some ⟨w.heap.size + 1, 0, none⟩), undef, Value.pointer (some ⟨w.heap.size + 1 + 1, 0, none⟩), Value.pointer (some ⟨w.heap.size + 1 + 1 + 1, 0, none⟩), Value.pointer (some ⟨w.heap.size + 1 + 1 + 1 + 1, 0, none⟩), Value.pointer (some ⟨w.heap.size + 1 + 1 + 1 + 1 + 1, 0, none⟩), undef, .int .i64 (zs[x.1] : Int), undef, Value.slice ao len cap, Value.int IntKind.i64 t, Value.int IntKind.i64 t, Value.int IntKind.i64 (com l t t), Value.slice a2 zs.length c2, Value.func (Fn.func 66) #[] #[Value.pointer (some ⟨w.heap.size + 1 + 1 + 1 + 1 + 1 + 1, 0, none⟩)], Value.int .i64 (x.1 : Int), .int .i64 (zs[x.1] : Int), undef, undef, undef, undef, undef, undef, undef, undef, undef, undef, undef, undef, undef, undef, undef, undef, undef], defers := [] }) ?assign ?body ?done ?stop
  case assign =>
    intro l x W K hK
    gi_wp2
    exact hK
  case body =>
    rintro l' pre x W hI _
    obtain ⟨d, n, hdn⟩ : ∃ d n, (d, n) = pick' l t (pre.map (fun i : Fin zs.length => zs.getD i.1 0)) := ⟨_, _, rfl⟩
    obtain ⟨k, hk⟩ : ∃ k, k = zs[x.1] := ⟨_, rfl⟩
    have hkt : k < t := hz k (by rw [hk]; exact List.getElem_mem _)
    have hps : pick' l t ((pre ++ [x]).map (fun i => zs.getD i.1 0)) = pstep l t (d, n) k := by rw [List.map_append, List.map_singleton, pick_snoc, ← hdn]; congr 1; rw [hk]; simp
    rw [← hdn] at hI
    simp only at hI
    rw [← hk]
    have hBW := hI.2.2.2.2.2.2
    have H2 := HC _ hBW k (by omega)
    obtain ⟨c, hc⟩ : ∃ c, c = com l k t := ⟨_, rfl⟩
    obtain ⟨m, hm⟩ : ∃ m, m = com l t t := ⟨_, rfl⟩
    rw [← hc] at H2
    rw [← hm] at hI ⊢
    have hn130 : n ≤ 130 := by have := pick_le l t (pre.map (fun i : Fin zs.length => zs.getD i.1 0)) (by intro k hk; rw [List.mem_map] at hk; obtain ⟨i, _, rfl⟩ := hk; exact hz _ (by simp)); rw [← hdn] at this; exact this.2
    have hc130 : c ≤ 130 := by rw [hc]; exact com_le l k t
    have hm130 : m ≤ 130 := by rw [hm]; exact com_le l t t
    obtain ⟨g1, g2, g3, g4, g5, g6, g7⟩ := id hI
    have c1 := g1.cell
    have c2 := g2.cell
    have c4 := g4.cell
    have c5 := g5.cell
    have c6 := g6.cell
    have f4 := g4.frozen
    have f5 := g5.frozen
    have HI := Lib.hid hI
    have HBW := Lib.hid hBW
    have HP := Lib.hid hps
    have HCC := Lib.hid hc
    have HH2 := Lib.hid H2
    clear hI hBW hps hc hm hdn hk H2 HC CC g1 g2 g3 g4 g5 g6 g7 hs hz hsz hB0 hstart hbox hW0
    by_cases hlt : n < c
    · have e1 : pick' l t ((pre ++ [x]).map (fun i : Fin zs.length => zs.getD i.1 0)) = (t - k, c) := by rw [HP.out]; unfold pstep; rw [← HCC.out]; exact if_pos hlt
      have fin : ∀ q, CB w ao len cap t m (t - k) c (((W.drewN q).setCell ⟨w.heap.size + 1 + 1 + 1, 0, none⟩ (.int .i64 ((t : Int) - (k : Int)))).setCell ⟨w.heap.size + 1 + 1 + 1 + 1, 0, none⟩ (.int .i64 (c : Int))) := by
        intro q
        have h := (HI.out.drewN q).set (t - k) c
        rw [show ((t - k : Nat) : Int) = (t : Int) - (k : Int) by omega] at h
        exact h
      have KF : ∀ q, KeepsFrom W0.heap.size W (((W.drewN q).setCell ⟨w.heap.size + 1 + 1 + 1, 0, none⟩ (.int .i64 ((t : Int) - (k : Int)))).setCell ⟨w.heap.size + 1 + 1 + 1 + 1, 0, none⟩ (.int .i64 (c : Int))) :=
        fun q => (((keeps_drewN W q).trans (KeepsOthers.setCell _ _ _)).trans (KeepsOthers.setCell _ _ _)).from _
      have KW : ∀ q, KB w.heap.size (w.heap.size + 1 + 1 + 1 + 1 + 1 + 1) W (((W.drewN q).setCell ⟨w.heap.size + 1 + 1 + 1, 0, none⟩ (.int .i64 ((t : Int) - (k : Int)))).setCell ⟨w.heap.size + 1 + 1 + 1 + 1, 0, none⟩ (.int .i64 (c : Int))) :=
        fun q => ⟨((below_drewN _ _ q).setCell (p := ⟨w.heap.size + 1 + 1 + 1, 0, none⟩) (by simp; omega) _).setCell (p := ⟨w.heap.size + 1 + 1 + 1 + 1, 0, none⟩) (by simp; omega) _, (Below.heap_setCell _ _ _ _ (by simp; omega)).trans (Below.heap_setCell _ _ _ _ (by simp; omega))⟩
      have HE := Lib.hid e1
      have HF := Lib.hid (fun q => And.intro (fin q) (And.intro (KF q) (KW q)))
      clear e1 fin KF KW
      gi_wp2_with (refine ⟨trivial, ?_⟩; gi_at_call 57; refine (CallsIn.inRound l' (callsIn_wide.2 HH2.out)).mono ?_; rintro e w' ⟨rfl, q, rfl⟩)
      · rename_i hcm
        simp only [beq_iff_eq] at hcm
        obtain ⟨fin, KF, KW⟩ := HF.out q
        refine ⟨KF, rfl, ?_, ?_⟩
        · rw [HE.out]; simp only; omega
        · rw [HE.out]; exact fin
      · obtain ⟨fin, KF, KW⟩ := HF.out q
        refine ⟨KF, KW, ?_⟩
        simp only [HE.out]
        exact fin
    · have e1 : pick' l t ((pre ++ [x]).map (fun i : Fin zs.length => zs.getD i.1 0)) = (d, n) := by rw [HP.out]; unfold pstep; rw [← HCC.out]; exact if_neg hlt
      have HE := Lib.hid e1
      clear e1
      gi_wp2_with (refine ⟨trivial, ?_⟩; gi_at_call 57; refine (CallsIn.inRound l' (callsIn_wide.2 HH2.out)).mono ?_; rintro e w' ⟨rfl, q, rfl⟩)
      · rename_i hcm
        simp only [beq_iff_eq] at hcm
        refine ⟨(keeps_drewN W q).from _, rfl, ?_, ?_⟩
        · rw [HE.out]; simp only; omega
        · rw [HE.out]; exact HI.out.drewN q
      · refine ⟨(keeps_drewN W q).from _, ⟨below_drewN _ _ q, rfl⟩, ?_⟩
        simp only [HE.out]
        exact HI.out.drewN q
  case done =>
    rintro D ys W hD hys hI hK
    rw [hys] at hI
    obtain ⟨d, n, hdn⟩ : ∃ d n, (d, n) = pick' l t zs.reverse := ⟨_, _, rfl⟩
    rw [← hdn] at hI
    obtain ⟨g1, g2, g3, g4, g5, g6, g7⟩ := id hI
    have c4 := g4.cell
    have c5 := g5.cell
    have ca : W.cell? ⟨w.heap.size + 1 + 1, 0, none⟩ = some (.int .i64 0) := cell_of_block g3 rfl
    have cb : W.cell? ⟨w.heap.size + 1 + 1, 1, none⟩ = some (.int .i64 0) := cell_of_block g3 rfl
    have fa : W.frozen? ⟨w.heap.size + 1 + 1, 0, none⟩ = false := frozen_of_block g3
    have fb : W.frozen? ⟨w.heap.size + 1 + 1, 1, none⟩ = false := frozen_of_block g3
    have HG := Lib.hid (And.intro g3 g7)
    have HI := Lib.hid hI
    have HD := Lib.hid hdn
    have HK := Lib.hid hK
    have HSZ := Lib.hid (And.intro hD hsz)
    clear hD
    clear hI hdn hK g1 g2 g3 g4 g5 g6 g7
    gi_wp2
    have hD2 : D ≠ w.heap.size + 1 + 1 := by have := HSZ.out; omega
    have hK2 := heap_set2 HK.out (p := ⟨w.heap.size + 1 + 1, 0, none⟩) (q := ⟨w.heap.size + 1 + 1, 1, none⟩) hD2 hD2 (.int .i64 (d : Int)) (.int .i64 (n : Int))
    refine ⟨by simp, .inl ⟨_, _, rfl, run_takeDeferred hK2, ?_⟩⟩
    have hb3 := belowK_b (w := W0) (n₀ := w.heap.size) (by have := HSZ.out; omega) _ D _ (.deferred none) HSZ.out.1 hK2 rfl rfl
    clear hK2
    have h2 := heap_put (D := D) (o := .deferred none) (block_setCell (i := 1) (block_setCell (i := 0) HG.out.1 (.int .i64 (d : Int))) (.int .i64 (n : Int))) hD2
    have hb2 := (((HG.out.2.setCell (p := ⟨w.heap.size + 1 + 1, 0, none⟩) (by simp; omega) (.int .i64 (d : Int))).setCell (p := ⟨w.heap.size + 1 + 1, 1, none⟩) (by simp; omega) (.int .i64 (n : Int))).trans hb3)
    clear hb3
    generalize ((W.setCell _ _).setCell _ _).putObj D _ = W2 at h2 hb2 ⊢
    have c0 := cell_of_block (i := 0) h2 rfl
    have c1 := cell_of_block (i := 1) h2 rfl
    refine ⟨.agg #[.int .i64 (d : Int), .int .i64 (n : Int)], ?_, ?_, hb2⟩
    · simp [results, Tryd.f53, go_sem, c0, c1]
    · rw [← HD.out]
  case stop =>
    rintro D c pre W hD ⟨k, hk, hpre⟩ ⟨rfl, hfull, hI⟩ hK
    have hfin : pick' l t zs.reverse = pick' l t (pre.map (fun i : Fin zs.length => zs.getD i.1 0)) := by
      rw [hpre] at hfull ⊢
      conv => lhs; rw [← List.take_append_drop k zs.reverse]
      exact pick_full l t _ _ hfull
    rw [← hfin] at hI
    clear hfin
    obtain ⟨d, n, hdn⟩ : ∃ d n, (d, n) = pick' l t zs.reverse := ⟨_, _, rfl⟩
    rw [← hdn] at hI
    obtain ⟨g1, g2, g3, g4, g5, g6, g7⟩ := id hI
    have c4 := g4.cell
    have c5 := g5.cell
    have ca : W.cell? ⟨w.heap.size + 1 + 1, 0, none⟩ = some (.int .i64 0) := cell_of_block g3 rfl
    have cb : W.cell? ⟨w.heap.size + 1 + 1, 1, none⟩ = some (.int .i64 0) := cell_of_block g3 rfl
    have fa : W.frozen? ⟨w.heap.size + 1 + 1, 0, none⟩ = false := frozen_of_block g3
    have fb : W.frozen? ⟨w.heap.size + 1 + 1, 1, none⟩ = false := frozen_of_block g3
    have HG := Lib.hid (And.intro g3 g7)
    have HI := Lib.hid hI
    have HD := Lib.hid hdn
    have HK := Lib.hid hK
    have HSZ := Lib.hid (And.intro hD hsz)
    clear hD
    clear hI hdn hK g1 g2 g3 g4 g5 g6 g7
    gi_wp2
    have hD2 : D ≠ w.heap.size + 1 + 1 := by have := HSZ.out; omega
    have hK2 := heap_set2 HK.out (p := ⟨w.heap.size + 1 + 1, 0, none⟩) (q := ⟨w.heap.size + 1 + 1, 1, none⟩) hD2 hD2 (.int .i64 (d : Int)) (.int .i64 (n : Int))
    refine ⟨by simp, .inl ⟨_, _, rfl, run_takeDeferred hK2, ?_⟩⟩
    have hb3 := belowK_b (w := W0) (n₀ := w.heap.size) (by have := HSZ.out; omega) _ D _ (.deferred none) HSZ.out.1 hK2 rfl rfl
    clear hK2
    have h2 := heap_put (D := D) (o := .deferred none) (block_setCell (i := 1) (block_setCell (i := 0) HG.out.1 (.int .i64 (d : Int))) (.int .i64 (n : Int))) hD2
    have hb2 := (((HG.out.2.setCell (p := ⟨w.heap.size + 1 + 1, 0, none⟩) (by simp; omega) (.int .i64 (d : Int))).setCell (p := ⟨w.heap.size + 1 + 1, 1, none⟩) (by simp; omega) (.int .i64 (n : Int))).trans hb3)
    clear hb3
    generalize ((W.setCell _ _).setCell _ _).putObj D _ = W2 at h2 hb2 ⊢
    have c0 := cell_of_block (i := 0) h2 rfl
    have c1 := cell_of_block (i := 1) h2 rfl
    refine ⟨.agg #[.int .i64 (d : Int), .int .i64 (n : Int)], ?_, ?_, hb2⟩
    · simp [results, Tryd.f53, go_sem, c0, c1]
    · rw [← HD.out]
end Mat
end Go.Proofs.YtllmogicmimjlaaDoor

end
section
namespace Go.Proofs.YtllmogicmimjlaaDoor
open Go.RowKit Go.Own
namespace Mat
open Go.MatM Byt

theorem isPos_any (ao : Option Addr) (len cap : Nat) (i : Int) (v : Bool) (hv : decide (0 ≤ i ∧ i < (len : Int)) = v) (w : World) (hb : len ≤ 1000000000) :
    Calls Tryd.prog 65 #[.slice ao len cap, .int .i64 i] w fun e w' => e = .returned (.bool v) ∧ w = w' := by
  have HV := Lib.hid hv
  clear hv
  by_cases h0 : 0 ≤ i
  · by_cases h1 : i < (len : Int)
    · go_enter Tryd.func65, Tryd.ntmps65
      go_wp2
      go_ret
      exact ⟨by rw [← HV.out]; simp; omega, rfl⟩
    · go_enter Tryd.func65, Tryd.ntmps65
      go_wp2
      go_ret
      exact ⟨by rw [← HV.out]; simp; omega, rfl⟩
  · go_enter Tryd.func65, Tryd.ntmps65
    go_wp2
    go_ret
    exact ⟨by rw [← HV.out]; simp; omega, rfl⟩

theorem hasHead_any (ao : Option Addr) (len cap : Nat) (i : Int) (v : Bool) (hv : decide (0 ≤ i ∧ i + 3 ≤ (len : Int)) = v) (w : World) (hb : len ≤ 1000000000) (h2 : i ≤ 9223372036854775807) :
    Calls Tryd.prog 50 #[.slice ao len cap, .int .i64 i] w fun e w' => e = .returned (.bool v) ∧ w = w' := by
  have HV := Lib.hid hv
  clear hv
  by_cases h0 : 0 ≤ i
  · by_cases h1 : i ≤ (len : Int) - 3
    · go_enter Tryd.func50, Tryd.ntmps50
      go_wp2
      go_ret
      exact ⟨by rw [← HV.out]; simp; omega, rfl⟩
    · go_enter Tryd.func50, Tryd.ntmps50
      go_wp2
      go_ret
      exact ⟨by rw [← HV.out]; simp; omega, rfl⟩
  · go_enter Tryd.func50, Tryd.ntmps50
    go_wp2
    go_ret
    exact ⟨by rw [← HV.out]; simp; omega, rfl⟩

theorem cnt_at (b : Bs) (i k f n : Nat) (h : ¬ (i + n < b.length ∧ k + n < b.length ∧ by' b (i + n) = by' b (k + n))) : cnt b i k f n = n := by
  cases f with
  | zero => rfl
  | succ f => unfold cnt; rw [if_neg h]
theorem cnt_on (b : Bs) (i k n : Nat) (hn : n < 130) (h : i + n < b.length ∧ k + n < b.length ∧ by' b (i + n) = by' b (k + n)) : cnt b i k (130 - n) n = cnt b i k (130 - (n + 1)) (n + 1) := by
  rw [show 130 - n = (130 - (n + 1)) + 1 by omega]
  conv => lhs; unfold cnt
  rw [if_pos h]

set_option maxHeartbeats 4000000 in
theorem common_any (ao : Option Addr) (len cap : Nat) (l : Bs) (i k : Int) (w : World) (hV : View w (fun k => k < w.heap.size) ao l) (hn : l.length = len) (hb : len ≤ 1000000) :
    Calls Tryd.prog 57 #[.slice ao len cap, .int .i64 i, .int .i64 k] w fun e w' => e = .returned (.int .i64 (comI l i k : Nat)) ∧ ∃ q, w' = w.drewN q := by
  have HN := Lib.hid hn
  have HV := Lib.hid hV
  obtain ⟨R, hR⟩ : ∃ r, r = comI l i k := ⟨_, rfl⟩
  rw [← hR]
  clear hn hV
  by_cases hi : 0 ≤ i ∧ i < (len : Int)
  · have P1 := Lib.hid (fun wx => isPos_any ao len cap i true (decide_eq_true hi) wx (by omega))
    by_cases hk : 0 ≤ k ∧ k < (len : Int)
    · have P2 := Lib.hid (fun wx => isPos_any ao len cap k true (decide_eq_true hk) wx (by omega))
      obtain ⟨hi0, hil⟩ := hi
      obtain ⟨hk0, hkl⟩ := hk
      obtain ⟨i, rfl⟩ := Int.eq_ofNat_of_zero_le hi0
      obtain ⟨k, rfl⟩ := Int.eq_ofNat_of_zero_le hk0
      have HR : Hid (R = com l i k) := by show R = com l i k; rw [hR]; unfold comI; rw [if_neg (by have := HN.out; omega)]; rfl
      obtain ⟨b, o, hao, _, _, _⟩ := vat HV.out (k := i) (by rw [HN.out]; omega)
      have HAO := Lib.hid hao
      have HBYTE : Hid (∀ j, j < len → w.cell? ⟨b, o + j, none⟩ = some (.int .u8 ((by' l j).toNat : Int))) := by
        intro j hj
        obtain ⟨b', o', h1, _, _, h2⟩ := vat HV.out (k := j) (by rw [HN.out]; exact hj)
        rw [HAO.out] at h1
        cases h1
        exact h2
      subst hao
      clear hR HAO
      obtain ⟨most, hmost⟩ : ∃ m, m = min (len - max i k) 130 := ⟨_, rfl⟩
      have HM : Hid (most ≤ 130 ∧ (i + most ≤ len ∧ k + most ≤ len) ∧ (most = 130 ∨ i + most = len ∨ k + most = len)) := by
        show _ ∧ _ ∧ _
        refine ⟨?_, ⟨?_, ?_⟩, ?_⟩ <;> omega
      have HMI : Hid (min ((len : Int) - max (i : Int) (k : Int)) 130 = (most : Int)) := by
        show min ((len : Int) - max (i : Int) (k : Int)) 130 = (most : Int)
        omega
      clear hmost
      go_enter Tryd.func57, Tryd.ntmps57
      go_wp2_with (first | (refine (P1.out _).mono ?_; clear P1; rintro e w' ⟨rfl, rfl⟩) | (refine (P2.out _).mono ?_; clear P2; rintro e w' ⟨rfl, rfl⟩))
      rw [HMI.out]
      go_loopw [8] (fun v wr => ∃ n : Nat, ∃ q, n ≤ most ∧ v = .int .i64 (n : Int) ∧ wr = w.drewN q ∧ cnt l i k (130 - n) n = R) (fun v _ => 131 - (intOf v).toNat)
      case atStart => exact ⟨0, 0, Nat.zero_le _, rfl, rfl, HR.out.symm⟩
      case round =>
        obtain ⟨n, q, hnm, rfl, rfl, hcnt⟩ := hrel
        have HCNT := Lib.hid hcnt
        clear hcnt
        have hm130 : most ≤ 130 := HM.out.1
        have hml := HM.out.2.1
        by_cases hlt : n < most
        · have c1 := HBYTE.out (i + n) (by omega)
          have c2 := HBYTE.out (k + n) (by omega)
          obtain ⟨x, hx⟩ : ∃ x, x = by' l (i + n) := ⟨_, rfl⟩
          obtain ⟨y, hy⟩ : ∃ y, y = by' l (k + n) := ⟨_, rfl⟩
          rw [← hx] at c1
          rw [← hy] at c2
          have HXY : Hid (x = by' l (i + n) ∧ y = by' l (k + n)) := ⟨hx, hy⟩
          clear hx hy
          have e1 : IntKind.i64.wrap ((i : Int) + (n : Int)) = ((i + n : Nat) : Int) := (IntWalk.i64_in _ (by omega)).trans (by omega)
          have e2 : IntKind.i64.wrap ((k : Int) + (n : Int)) = ((k + n : Nat) : Int) := (IntWalk.i64_in _ (by omega)).trans (by omega)
          have b1 : i + n < len := by omega
          have b2 : k + n < len := by omega
          by_cases hxy : x = y
          · subst hxy
            go_wp2
            go_quiet (fail)
            go_wp2
            go_roundw
            case rel =>
              refine ⟨n + 1, q + nq, by omega, by simp, rfl, ?_⟩
              rw [← HCNT.out]
              exact (cnt_on l i k n (by omega) ⟨by rw [HN.out]; omega, by rw [HN.out]; omega, by rw [← HXY.out.1, ← HXY.out.2]⟩).symm
            case measure => simp [intOf]; omega
          · have hxy' : ¬ (x.toNat : Int) = (y.toNat : Int) := fun h => hxy (UInt8.toNat_inj.1 (by omega))
            have HE : Hid (R = n) := by
              show R = n
              rw [← HCNT.out]
              exact cnt_at l i k _ n (fun h => hxy (by rw [HXY.out.1, HXY.out.2]; exact h.2.2))
            go_wp2
            go_quiet (fail)
            go_wp2
            go_ret
            exact ⟨by rw [HE.out]; rfl, q + nq, by first | rfl | simp⟩
        · have HE : Hid (R = n) := by
            show R = n
            rw [← HCNT.out]
            rcases HM.out.2.2 with h | h | h
            · rw [show 130 - n = 0 by omega]; rfl
            · exact cnt_at l i k _ n (fun g => by have := HN.out; omega)
            · exact cnt_at l i k _ n (fun g => by have := HN.out; omega)
          have hnm' : ¬ (n : Int) < (most : Int) := by omega
          go_wp2
          go_quiet (fail)
          go_wp2
          go_ret
          exact ⟨by rw [HE.out]; rfl, q + nq, by first | rfl | simp⟩
    · have P2 := Lib.hid (fun wx => isPos_any ao len cap k false (decide_eq_false hk) wx (by omega))
      have h0 : R = 0 := by rw [hR]; unfold comI; rw [if_pos (by have := HN.out; omega)]
      subst h0
      clear hR
      go_enter Tryd.func57, Tryd.ntmps57
      go_wp2_with (first | (refine (P1.out _).mono ?_; clear P1; rintro e w' ⟨rfl, rfl⟩) | (refine (P2.out _).mono ?_; clear P2; rintro e w' ⟨rfl, rfl⟩))
      go_ret
      exact ⟨rfl, 0, rfl⟩
  · have P1 := Lib.hid (fun wx => isPos_any ao len cap i false (decide_eq_false hi) wx (by omega))
    have h0 : R = 0 := by rw [hR]; unfold comI; rw [if_pos (by have := HN.out; omega)]
    subst h0
    clear hR
    go_enter Tryd.func57, Tryd.ntmps57
    go_wp2_with (refine (P1.out _).mono ?_; clear P1; rintro e w' ⟨rfl, rfl⟩)
    go_ret
    exact ⟨rfl, 0, rfl⟩
end Mat
end Go.Proofs.YtllmogicmimjlaaDoor

end
section
namespace Go.Proofs.YtllmogicmimjlaaDoor
open Go.RowKit Go.Own
namespace Mat
open Go.MatM Byt

theorem infoPair : (Tryd.prog.info? 73).map (fun i => (i.zero, i.size, i.bytes)) = some (some (.agg #[.int .i64 0, .int .i64 0]), 2, 16) := by kernel_rfl
/-- pairs of numbers as cells -/
def pcells (ps : List (Nat × Nat)) : List Value := ps.flatMap fun x => [.int .i64 (x.1 : Int), .int .i64 (x.2 : Int)]
theorem pcells_len (ps : List (Nat × Nat)) : (pcells ps).length = ps.length * 2 := by
  induction ps with
  | nil => rfl
  | cons x ps ih => simp only [pcells, List.flatMap_cons, List.length_append, List.length_cons, List.length_nil] at *; omega
theorem pcells_at (ps : List (Nat × Nat)) : ∀ i, i < ps.length → (pcells ps)[2 * i]? = some (.int .i64 ((ps.getD i (0, 0)).1 : Int)) ∧ (pcells ps)[2 * i + 1]? = some (.int .i64 ((ps.getD i (0, 0)).2 : Int)) := by
  induction ps with
  | nil => intro i h; simp at h
  | cons x ps ih =>
    intro i h
    have e : pcells (x :: ps) = .int .i64 (x.1 : Int) :: .int .i64 (x.2 : Int) :: pcells ps := rfl
    rw [e]
    cases i with
    | zero => exact ⟨rfl, rfl⟩
    | succ i =>
      have h1 := ih i (by simpa using h)
      rw [show 2 * (i + 1) = 2 * i + 1 + 1 by omega]
      simp only [List.getElem?_cons_succ, List.getD_cons_succ]
      exact h1
/-- a slice of pairs of one's own -/
def AQ (ao : Option Addr) (n cap : Nat) (ps : List (Nat × Nat)) : Asn := ARow 73 2 (.slice ao n cap) n (pcells ps)
section
variable {B : Nat} {w0 w : World} {Ps : List Asn} {ao : Option Addr} {n cap : Nat} {ps : List (Nat × Nat)}
theorem aq_len (H : St B w0 w Ps) (i : Nat) (hi : Ps[i]? = some (AQ ao n cap ps)) : ps.length = n ∧ n ≤ cap ∧ cap ≤ maxLen := by
  obtain ⟨S, hS, _⟩ := H.at i hi
  obtain ⟨ao', cap', hv, h1, h2, h3, _⟩ := Row.form hS
  simp only [Value.slice.injEq, true_and] at hv
  obtain ⟨rfl, rfl⟩ := hv
  have := hS.own.1
  rw [pcells_len] at this
  exact ⟨by omega, h1, h2⟩
/-- one pair of a slice of one's own -/
theorem aq_at (H : St B w0 w Ps) (i : Nat) (hi : Ps[i]? = some (AQ ao n cap ps)) (j : Nat) (hj : j < n) :
    ∃ g, ao = some ⟨g, 0, none⟩ ∧ w.cell? ⟨g, 2 * j, none⟩ = some (.int .i64 ((ps.getD j (0, 0)).1 : Int)) ∧ w.cell? ⟨g, 2 * j + 1, none⟩ = some (.int .i64 ((ps.getD j (0, 0)).2 : Int)) := by
  have hl := (aq_len H i hi).1
  obtain ⟨S, hS, _⟩ := H.at i hi
  obtain ⟨ao', cap', hv, _, _, h3, h4⟩ := Row.form hS
  simp only [Value.slice.injEq, true_and] at hv
  obtain ⟨rfl, rfl⟩ := hv
  cases ao with
  | none => have := (h3 rfl).1; omega
  | some a =>
    obtain ⟨g, rfl, _⟩ := h4 a rfl
    have hc := pcells_at ps j (by omega)
    exact ⟨g, rfl, (hS.cells (2 * j) (by omega)).trans hc.1, (hS.cells (2 * j + 1) (by omega)).trans hc.2⟩
end

theorem two_cells (w : World) (d n : Nat) (t : TypeId) : ∀ j u, (pcells [(d, n)])[j]? = some u → (w.alloc (.cells #[.int .i64 (d : Int), .int .i64 (n : Int)] t)).cell? ((⟨w.heap.size, 0, none⟩ : Addr).add j) = some u := by
  intro j u h
  have hb : (w.alloc (.cells #[.int .i64 (d : Int), .int .i64 (n : Int)] t)).heap[w.heap.size]? = some (.cells #[.int .i64 (d : Int), .int .i64 (n : Int)] t) := heap_alloc_new w _
  rw [add_of]
  match j, h with
  | 0, h => exact (cell_of_block (i := 0 + 0) hb rfl).trans h
  | 1, h => exact (cell_of_block (i := 0 + 1) hb rfl).trans h
/-- what is one's own, as a call hands it out -/
theorem row_out {w wr : World} {Ps : List Asn} {ao : Option Addr} {n cap : Nat} {ps : List (Nat × Nat)} (H : St w.heap.size w wr Ps) (i : Nat) (hi : Ps[i]? = some (AQ ao n cap ps)) :
    ∃ T, Row wr 73 2 T (.slice ao n cap) n (pcells ps) ∧ Step (fun _ => False) T w wr := by
  obtain ⟨S, hS, hB, _⟩ := H.at i hi
  have hb := H.below
  exact ⟨S, hS, ⟨hb.os, hb.tape, hb.output, H.size, fun k hk _ => hb.block k hk, fun k hk => .inr (hB k hk)⟩⟩

/-- P5.3 -/
def alls (l : Bs) : List (Nat × Nat) := (List.range l.length).map (longest l)
/-- what a call leaves that answers all longest matches -/
def AllDone (l : Bs) (len : Nat) (w : World) (e : Ending) (w' : World) : Prop := ∃ ao cap T, e = .returned (.slice ao len cap) ∧ Row w' 73 2 T (.slice ao len cap) len (pcells (alls l)) ∧ Step (fun _ => False) T w w'

end Mat
end Go.Proofs.YtllmogicmimjlaaDoor

end
section
namespace Go.Proofs.YtllmogicmimjlaaDoor
open Go.RowKit Go.Own
namespace Mat
open Go.MatM Byt

set_option maxHeartbeats 1000000 in
theorem headAt_any (ao : Option Addr) (len cap : Nat) (l : Bs) (t : Nat) (w : World) (hG : Given w ao len cap l) (hb : len ≤ 1000000) (ht : t + 3 ≤ len) :
    Calls Tryd.prog 52 #[.slice ao len cap, .int .i64 (t : Int)] w fun e w' => e = .returned (hdV (by' l t) (by' l (t + 1)) (by' l (t + 2))) ∧ Below w.heap.size w w' := by
  obtain ⟨b, o, hao, _, hbw, _⟩ := vat hG.view (k := t) (by rw [hG.size]; omega)
  have hc : ∀ j, j < len → w.cell? ⟨b, o + j, none⟩ = some (.int .u8 ((by' l j).toNat : Int)) := by
    intro j hj
    obtain ⟨b', o', h1, _, _, h2⟩ := vat hG.view (k := j) (by rw [hG.size]; exact hj)
    rw [hao] at h1
    cases h1
    exact h2
  subst hao
  have c0 := hc t (by omega)
  have c1 := hc (t + 1) (by omega)
  have c2 := hc (t + 2) (by omega)
  have hcap := hG.room
  generalize by' l t = x0 at *
  generalize by' l (t + 1) = x1 at *
  generalize by' l (t + 2) = x2 at *
  have hm := hcap.2
  unfold maxLen at hm
  have hcl := hcap.1
  clear hG hc hcap
  have c1 : w.cell? ⟨b, o + t + 1, none⟩ = some (.int .u8 (x1.toNat : Int)) := c1
  have c2 : w.cell? ⟨b, o + t + 2, none⟩ = some (.int .u8 (x2.toNat : Int)) := c2
  have d0 : (w.alloc (.cells #[.int .u8 0, .int .u8 0, .int .u8 0] 103)).cell? ⟨b, o + t, none⟩ = some (.int .u8 (x0.toNat : Int)) := cell_alloc c0 _
  have d1 : (w.alloc (.cells #[.int .u8 0, .int .u8 0, .int .u8 0] 103)).cell? ⟨b, o + t + 1, none⟩ = some (.int .u8 (x1.toNat : Int)) := cell_alloc c1 _
  have d2 : (w.alloc (.cells #[.int .u8 0, .int .u8 0, .int .u8 0] 103)).cell? ⟨b, o + t + 2, none⟩ = some (.int .u8 (x2.toNat : Int)) := cell_alloc c2 _
  have hat : ∀ w, (Instr.arrayAt 103 (.slice (some ⟨b, o + t, none⟩) 3 (cap - t))).run Tryd.prog w = .ok (.pointer (some ⟨b, o + t, none⟩)) w := fun w => run_arrayAt w 103 _ 3 _ 3 (cap - t) Tryd.underlying103 (Nat.le_refl _)
  go_enter Tryd.func52, Tryd.ntmps52
  go_wp2
  refine bodyPost_ret (v := hdV x0 x1 x2) ?_ rfl ⟨rfl, (Below.refl _ _).alloc (Nat.le_refl _) _⟩
  have hres : Tryd.f52.results = #[.cell 4 103] := by kernel_rfl
  simp only [results, hres]
  go_simp
  rfl

def farP (t z : Nat) : Bool := decide (z + 256 < t)
set_option maxHeartbeats 1000000 in
theorem within_any (v : Value) (zs : List Nat) (t : Nat) (w : World) (hs : Slc w v zs) (hl : zs.length ≤ 100000000) (hz : ∀ k ∈ zs, k ≤ 1000000000) (ht : t ≤ 1000000000) :
    Calls Tryd.prog 51 #[v, .int .i64 (t : Int)] w fun e w' => ∃ v', e = .returned v' ∧ w = w' ∧ Slc w v' (zs.dropWhile (farP t)) ∧ v'.ownBlock = v.ownBlock := by
  have HS := Lib.hid hs
  have HZ := Lib.hid hz
  clear hs hz
  go_enter Tryd.func51, Tryd.ntmps51
  go_wp2
  go_loopw [0] (fun x wr => wr = w ∧ ∃ zs1, Slc w x zs1 ∧ x.ownBlock = v.ownBlock ∧ zs1.dropWhile (farP t) = zs.dropWhile (farP t) ∧ zs1.length ≤ 100000000 ∧ ∀ k ∈ zs1, k ≤ 1000000000) (fun x _ => lenV x)
  case atStart => exact ⟨rfl, zs, HS.out, rfl, rfl, hl, HZ.out⟩
  case round =>
    obtain ⟨rfl, zs1, hs1, hob, hdw, hl1, hz1⟩ := hrel
    cases zs1 with
    | nil =>
      obtain ⟨ao, cap, rfl, _⟩ := hs1.form
      have H1 := Lib.hid hs1
      have H2 := Lib.hid hob
      have H3 := Lib.hid hdw
      clear hs1 hob hdw hz1
      go_wp2
      go_ret
      refine ⟨_, rfl, rfl, ?_, H2.out⟩
      rw [← H3.out]
      exact H1.out
    | cons z zs1 =>
      rcases id hs1 with ⟨_, h0⟩ | ⟨g, o, cap, cur, rfl, hb, h1, h2, h3, h4⟩
      · cases h0
      · have c0 : wr.cell? ⟨g, o, none⟩ = some (.int .i64 (z : Int)) := cell_of_block (i := o) hb (by have := h4 0 (by simp); simpa [nv] using this)
        have hcap : zs1.length + 1 ≤ cap := by simpa using h1
        have hcm : cap ≤ 9223372036854775807 := by unfold maxLen at h2; omega
        have hzb := hz1 z (List.mem_cons_self ..)
        have H1 := Lib.hid hs1
        have H2 := Lib.hid hob
        have H3 := Lib.hid hdw
        have H4 := Lib.hid (fun k hk => hz1 k (List.mem_cons_of_mem _ hk))
        have hl2 : zs1.length + 1 ≤ 100000000 := by simpa using hl1
        clear hs1 hob hdw hz1 hl1 hb h1 h2 h3 h4
        simp only [List.length_cons] at H1 H2 ⊢
        obtain ⟨n, hn⟩ : ∃ n, n = zs1.length := ⟨_, rfl⟩
        rw [← hn] at hcap hl2 H1 H2 ⊢
        have HN := Lib.hid hn
        clear hn
        by_cases hf : z + 256 < t
        · have hf' : (256 : Int) < (t : Int) - (z : Int) := by omega
          go_wp2
          go_roundw
          case rel =>
            refine ⟨trivial, zs1, ?_, ?_, ?_, by have := HN.out; omega, H4.out⟩
            · have h := H1.out; rw [HN.out] at h ⊢; exact h.off'
            · rw [← H2.out]; by_cases hc : cap = 1
              · rw [if_pos hc]; rfl
              · rw [if_neg hc]; rfl
            · rw [← H3.out, List.dropWhile_cons]
              simp [farP, hf]
          case measure => simp [lenV]
        · have hf' : ¬ (256 : Int) < (t : Int) - (z : Int) := by omega
          go_wp2
          go_ret
          refine ⟨.slice (some ⟨g, o, none⟩) (n + 1) cap, rfl, rfl, ?_, H2.out⟩
          rw [← H3.out, List.dropWhile_cons]
          simp only [farP, hf, decide_false, Bool.false_eq_true, if_false]
          exact H1.out

end Mat
end Go.Proofs.YtllmogicmimjlaaDoor

end
section
namespace Go.Proofs.YtllmogicmimjlaaDoor
open Go.RowKit Go.Own
namespace Mat
open Go.MatM Byt

theorem choose_in {w wr : World} (hw : Below w.heap.size w wr) {ao : Option Addr} {len cap : Nat} {l : Bs} (HG : Given w ao len cap l) (t : Nat) (v : Value) (hb : len ≤ 1000000) (ht : t + 3 ≤ len) (hs : Slc wr v (near l t)) :
    Calls Tryd.prog 53 #[.slice ao len cap, .int .i64 (t : Int), v] wr fun e w' => e = .returned (.agg #[.int .i64 ((longest l t).1 : Int), .int .i64 ((longest l t).2 : Int)]) ∧ Below wr.heap.size wr w' := by
  have h := choose_any ao len cap t l v (near l t) wr hs (by have := near_len l t; omega) (fun k hk => near_lt l t k hk) (by omega) (Lib.hid (fun wx hwx k hk => by
    have hg := HG.later (hw.trans (hwx.mono hw.size))
    have h := common_any ao len cap l (k : Int) (t : Int) wx hg.view hg.size hb
    have e : comI l (k : Int) (t : Int) = com l k t := by unfold comI; rw [if_neg (by have := HG.size; omega)]; rfl
    rw [e] at h
    exact h))
  rw [pick_near l t (by have := HG.size; omega)] at h
  exact h

end Mat
end Go.Proofs.YtllmogicmimjlaaDoor

end
section
namespace Go.Proofs.YtllmogicmimjlaaDoor
open Go.RowKit Go.Own Go.Maps
namespace Mat
open Go.MatM Byt

theorem occ_drop (l h : Bs) (i : Nat) : ∀ (m lo : Nat), i - lo ≤ m → lo ≤ i - 256 → (occ l h lo i).dropWhile (farP i) = occ l h (i - 256) i := by
  intro m
  induction m with
  | zero =>
    intro lo h1 h2
    cases hz : occ l h lo i with
    | nil => exact (occ_none l h lo (i - 256) i hz h2).symm
    | cons z zs => have := (occ_cons l h lo i z zs hz).2; omega
  | succ m ih =>
    intro lo h1 h2
    cases hz : occ l h lo i with
    | nil => exact (occ_none l h lo (i - 256) i hz h2).symm
    | cons z zs =>
      obtain ⟨e, g1, g2⟩ := occ_cons l h lo i z zs hz
      rw [List.dropWhile_cons]
      by_cases hf : z + 256 < i
      · rw [if_pos (show farP i z = true by simp [farP, hf]), e]
        exact ih (z + 1) (by omega) (by omega)
      · rw [if_neg (show ¬ farP i z = true by simp [farP, hf]), ← hz]
        exact occ_near l h lo (i - 256) i z zs hz h2 (by omega)

/-- what the map tells when i places have been seen -/
def FI (l : Bs) (i : Nat) (f : Lit → List Nat) : Prop := ∀ a b c, ∃ lo, lo ≤ i - 256 ∧ f (hdL a b c) = occ l [a, b, c] lo i
theorem FI.zero (l : Bs) : FI l 0 (fun _ => []) := fun a b c => ⟨0, Nat.le_refl _, (occ_empty l [a, b, c] 0).symm⟩
theorem FI.nearby {l : Bs} {i : Nat} {f : Lit → List Nat} (h : FI l i f) : (f (hdL (by' l i) (by' l (i + 1)) (by' l (i + 2)))).dropWhile (farP i) = near l i := by
  obtain ⟨lo, h1, h2⟩ := h (by' l i) (by' l (i + 1)) (by' l (i + 2))
  rw [h2, occ_drop l _ i i lo (by omega) h1]
  rfl
theorem FI.few {l : Bs} {i : Nat} {f : Lit → List Nat} (h : FI l i f) (a b c : UInt8) : (f (hdL a b c)).length ≤ i ∧ ∀ k ∈ f (hdL a b c), k < i := by
  obtain ⟨lo, h1, h2⟩ := h a b c
  rw [h2]
  exact ⟨by have := occ_len l [a, b, c] lo i; omega, fun k hk => ((occ_mem l [a, b, c] lo i k).1 hk).2.1⟩
theorem FI.next {l : Bs} {i : Nat} {f : Lit → List Nat} (h : FI l i f) : FI l (i + 1) (put1 f (hdL (by' l i) (by' l (i + 1)) (by' l (i + 2))) (near l i ++ [i])) := by
  intro a b c
  by_cases e : hdL a b c = hdL (by' l i) (by' l (i + 1)) (by' l (i + 2))
  · obtain ⟨rfl, rfl, rfl⟩ := hdL_inj e
    refine ⟨i - 256, Nat.sub_le_sub_right (Nat.le_succ i) 256, ?_⟩
    rw [put1_same, occ_succ _ _ _ _ (Nat.sub_le _ _)]
    show near l i ++ [i] = occ l (hd l i) (i - 256) i ++ (if hd l i = hd l i then [i] else [])
    rw [if_pos rfl]
    rfl
  · obtain ⟨lo, h1, h2⟩ := h a b c
    refine ⟨lo, Nat.le_trans h1 (Nat.sub_le_sub_right (Nat.le_succ i) 256), ?_⟩
    rw [put1_other e, h2, occ_succ _ _ _ _ (Nat.le_trans h1 (Nat.sub_le _ _)), if_neg, List.append_nil]
    intro e2
    simp only [hd, List.cons.injEq, and_true] at e2
    exact e (by rw [e2.1, e2.2.1, e2.2.2])

/-! ### pairs that are made and set -/
theorem madePairs (n : Nat) : (madeCells (Value.agg #[.int .i64 0, .int .i64 0]).cells (n * 2)).toList = pcells (List.replicate n (0, 0)) := by
  unfold madeCells
  apply List.ext_getElem?
  intro i
  by_cases hi : i < n * 2
  · have hc := pcells_at (List.replicate n (0, 0)) (i / 2) (by simp; omega)
    have hz : (List.replicate n ((0 : Nat), (0 : Nat))).getD (i / 2) (0, 0) = (0, 0) := by rw [List.getD_eq_getElem?_getD, List.getElem?_replicate]; split <;> rfl
    rw [hz] at hc
    have hv : (pcells (List.replicate n (0, 0)))[i]? = some (.int .i64 0) := by
      rcases Nat.mod_two_eq_zero_or_one i with h | h
      · have e : 2 * (i / 2) = i := by omega
        rw [e] at hc; simpa using hc.1
      · have e : 2 * (i / 2) + 1 = i := by omega
        rw [e] at hc; simpa using hc.2
    rw [hv]
    simp [hi, Value.cells]
    rcases Nat.mod_two_eq_zero_or_one i with h | h <;> simp [h]
  · have h2 : (pcells (List.replicate n (0, 0))).length = n * 2 := by rw [pcells_len]; simp
    rw [List.getElem?_eq_none (l := pcells (List.replicate n (0, 0))) (by rw [h2]; omega)]
    simp [hi]
theorem pcells_set (ps : List (Nat × Nat)) : ∀ (j : Nat) (d m : Nat), ((pcells ps).set (2 * j) (.int .i64 (d : Int))).set (2 * j + 1) (.int .i64 (m : Int)) = pcells (ps.set j (d, m)) := by
  induction ps with
  | nil => intro j d m; simp [pcells]
  | cons x ps ih =>
    intro j d m
    have e : ∀ (y : Nat × Nat) qs, pcells (y :: qs) = .int .i64 (y.1 : Int) :: .int .i64 (y.2 : Int) :: pcells qs := fun _ _ => rfl
    cases j with
    | zero => rfl
    | succ j =>
      rw [show 2 * (j + 1) = 2 * j + 1 + 1 by omega]
      simp only [e, List.set_cons_succ, List.set_cons_succ]
      rw [ih]

section
variable {B : Nat} {w0 w : World} {Ps : List Asn}
theorem aq_make (H : St B w0 w Ps) (kl kc : IntKind) (n : Nat) (hn : n ≤ 100000000) :
    ∃ w', (Instr.makeSlice 70 (.int kl (n : Int)) (.int kc (n : Int))).run Tryd.prog w = .ok (.slice (some ⟨w.heap.size, 0, none⟩) n n) w' ∧ St B w0 w' (AQ (some ⟨w.heap.size, 0, none⟩) n n (List.replicate n (0, 0)) :: Ps) := by
  obtain ⟨i0, hi, hz0, hz1, hz2⟩ := info_parts infoPair
  obtain ⟨w', hr, hown, hg⟩ := run_make_full (P := Tryd.prog) w 0 70 73 i0 (.agg #[.int .i64 0, .int .i64 0]) 2 Tryd.underlying70 hi hz0 hz1 kl kc n (by rw [hz2]; omega) (by unfold maxLen; omega) (Nat.zero_le _)
  rw [madePairs] at hown
  refine ⟨w', hr, H.new (S' := fun k => k = w.heap.size) (AQ _ n n _) ⟨hown, fun k => by simp [Value.ownBlock, eq_comm]⟩ ?_⟩
  exact ((Step.refl (fun _ => False) w).grown hg (by intro k hk; cases hk)).to (fun k hk => .inr (Nat.le_of_eq hk.symm))

/-- a pair is set; what lies apart from it stays -/
theorem aq_put {p n cap : Nat} {ps : List (Nat × Nat)} (H : St B w0 w Ps) (i k : Nat) (hik : k ≠ i) (hi : Ps[i]? = some (AQ (some ⟨p, 0, none⟩) n cap ps)) {b m : Nat} {g : Lit → Value} {f : Lit → List Nat} (hk : Ps[k]? = some (AG b m g f)) (j : Nat) (hj : j < n) :
    (∃ u, w.cell? ⟨p, j * 2, none⟩ = some u) ∧ (∃ u, w.cell? ⟨p, j * 2 + 1, none⟩ = some u) ∧ w.frozen? ⟨p, j * 2, none⟩ = false ∧ w.frozen? ⟨p, j * 2 + 1, none⟩ = false ∧
      ∀ d x : Nat, St B w0 ((w.setCell ⟨p, j * 2, none⟩ (.int .i64 (d : Int))).setCell ⟨p, j * 2 + 1, none⟩ (.int .i64 (x : Int))) (Ps.set i (AQ (some ⟨p, 0, none⟩) n cap (ps.set j (d, x)))) ∧
        ∀ v zs kl, Slc w v zs → v.ownBlock = (g kl).ownBlock → Slc ((w.setCell ⟨p, j * 2, none⟩ (.int .i64 (d : Int))).setCell ⟨p, j * 2 + 1, none⟩ (.int .i64 (x : Int))) v zs := by
  obtain ⟨S, Sk, hS, hSk, hdis, _, put⟩ := H.at2 i k hik hi hk
  have hlen := (aq_len H i hi).1
  rw [show j * 2 = 2 * j by omega]
  obtain ⟨hown, hset⟩ := id hS
  rcases hown.2 with ⟨hv, rfl⟩ | ⟨g', cap', cur, hv, h0, hb, hnc, hcm, hcs, htake⟩
  · omega
  · simp only [Value.slice.injEq, true_and, Option.some.injEq, Addr.mk.injEq, and_true] at hv
    obtain ⟨rfl, rfl⟩ := hv
    have l0 : 2 * j < cur.size := by omega
    have l1 : 2 * j + 1 < cur.size := by omega
    refine ⟨⟨_, cell_of_block hb (Array.getElem?_eq_getElem l0)⟩, ⟨_, cell_of_block hb (Array.getElem?_eq_getElem l1)⟩, frozen_of_block hb, frozen_of_block hb, fun d x => ?_⟩
    have hst : Step S S w ((w.setCell ⟨p, 2 * j, none⟩ (.int .i64 (d : Int))).setCell ⟨p, 2 * j + 1, none⟩ (.int .i64 (x : Int))) :=
      ((Step.refl S w).setCell (a := ⟨p, 2 * j, none⟩) (Or.inl ((hset p).2 rfl)) _).setCell (a := ⟨p, 2 * j + 1, none⟩) (Or.inl ((hset p).2 rfl)) _
    refine ⟨put S _ (AQ (some ⟨p, 0, none⟩) n cap (ps.set j (d, x))) ?_ hst, fun v zs kl hs hvb => hs.step hst (fun q hq => hdis q ((hSk.2.2.2.2 q).2 (.inr ⟨kl, by rw [← hvb]; exact hq⟩)))⟩
    have h1 := (hown.stored (2 * j) (.int .i64 (d : Int))).1
    have h2 := (h1.stored (2 * j + 1) (.int .i64 (x : Int))).1
    rw [pcells_set] at h2
    exact ⟨h2, hset⟩
end
end Mat
end Go.Proofs.YtllmogicmimjlaaDoor

end
section
namespace Go.Proofs.YtllmogicmimjlaaDoor
open Go.RowKit Go.Own
namespace Mat
open Go.MatM Byt

def RetYes (w : World) (e : Ending) (w' : World) : Prop := e = .returned (.bool true) ∧ Below w.heap.size w w'

structure Kept (W : World) : Prop where
  common : ∀ ao len cap l (i k : Int) w, Below W.heap.size W w → Given w ao len cap l → len ≤ 10000 → -9223372036854775808 ≤ i → i ≤ 9223372036854775807 → -9223372036854775808 ≤ k → k ≤ 9223372036854775807 →
    Calls Tryd.prog 57 #[.slice ao len cap, .int .i64 i, .int .i64 k] w fun e w' => e = .returned (.int .i64 (comI l i k : Nat)) ∧ Below w.heap.size w w'
  all : ∀ ao len cap l w, Below W.heap.size W w → Given w ao len cap l → len ≤ 10000 → Calls Tryd.prog 34 #[.slice ao len cap] w (AllDone l len w)
theorem Kept.later {W W' : World} (K : Kept W) (g : Below W.heap.size W W') : Kept W' := by
  constructor
  all_goals first
    | exact fun ao len cap l i k w h => K.common ao len cap l i k w (g.trans (h.mono g.size))
    | exact fun ao len cap l t w h => K.longest ao len cap l t w (g.trans (h.mono g.size))
    | exact fun ao len cap l w h => K.all ao len cap l w (g.trans (h.mono g.size))

end Mat
end Go.Proofs.YtllmogicmimjlaaDoor

end
section
namespace Go.Proofs.YtllmogicmimjlaaDoor
open Go.RowKit Go.Own Go.Maps
namespace Mat
open Go.MatM Byt

/-- what has been seen, and nothing behind it -/
def upto (l : Bs) (len i : Nat) : List (Nat × Nat) := (List.range i).map (longest l) ++ List.replicate (len - i) (0, 0)
theorem upto_zero (l : Bs) (len : Nat) : upto l len 0 = List.replicate len (0, 0) := by simp [upto]
theorem upto_set (l : Bs) (len i : Nat) (h : i < len) : (upto l len i).set i (longest l i) = upto l len (i + 1) := by
  unfold upto
  obtain ⟨r, hr⟩ : ∃ r, len - i = r + 1 := ⟨len - i - 1, by omega⟩
  rw [hr, show len - (i + 1) = r by omega, List.set_append_right _ _ (by simp), List.range_succ, List.map_append]
  simp [List.replicate_succ]
theorem upto_end (l : Bs) (len i : Nat) (hl : l.length = len) (h1 : i ≤ len) (h : len < i + 3) : upto l len i = alls l := by
  unfold upto alls
  rw [hl]
  obtain ⟨r, hr⟩ : ∃ r, len = i + r := ⟨len - i, by omega⟩
  have e : List.range len = List.range i ++ (List.range r).map (fun j => i + j) := by rw [hr, List.range_add]
  rw [e, List.map_append]
  congr 1
  rw [show len - i = r by omega, List.map_map]
  symm
  rw [List.eq_replicate_iff]
  refine ⟨by simp, fun x hx => ?_⟩
  rw [List.mem_map] at hx
  obtain ⟨j, _, rfl⟩ := hx
  exact longest_short l (i + j) (by omega)

theorem look_op {B : Nat} {w0 w : World} {Ps : List Asn} {b n : Nat} {g : Lit → Value} {f : Lit → List Nat} (H : St B w0 w Ps) (i : Nat) (hi : Ps[i]? = some (AG b n g f)) (p q r : UInt8) {o : Oper} {x y : Tmp} (ho : o.op = .lookup 98 (.tmp x) (.tmp y) false) (ρ : Operand → Value) (h0 : ρ (.tmp x) = .map (some b)) (h1 : ρ (.tmp y) = hdV p q r) :
    (execOp ρ o).run Tryd.prog w = .ok (.value (g (hdL p q r))) w := by
  have h := ag_look H i hi p q r
  simp [execOp, ho, h0, h1, h, go_sem]

set_option maxHeartbeats 4000000 in
theorem all_any (ao : Option Addr) (len cap : Nat) (l : Bs) (w : World) (hG : Given w ao len cap l) (hb : len ≤ 1000000) :
    Calls Tryd.prog 34 #[.slice ao len cap] w (AllDone l len w) := by
  have HG := Lib.hid hG
  have HL := Lib.hid hG.size
  clear hG
  obtain ⟨w1, pA, hmk, hst1⟩ : ∃ w1 pA, (Instr.makeSlice 70 (.int .i64 (len : Int)) (.int .i64 (len : Int))).run Tryd.prog w = .ok (.slice (some ⟨pA, 0, none⟩) len len) w1 ∧ Own.St w.heap.size w w1 [AQ (some ⟨pA, 0, none⟩) len len (List.replicate len (0, 0))] := by
    obtain ⟨w1, h1, h2⟩ := aq_make (Own.St.start w) .i64 .i64 len (by omega)
    exact ⟨w1, _, h1, h2⟩
  obtain ⟨w2, bM, hmm, hst2⟩ : ∃ w2 bM, (Instr.makeMap 98 none).run Tryd.prog w1 = .ok (.map (some bM)) w2 ∧ Own.St w.heap.size w w2 [AG bM 0 (fun _ => .slice none 0 0) (fun _ => []), AQ (some ⟨pA, 0, none⟩) len len (List.replicate len (0, 0))] :=
    ⟨_, _, rfl, ag_made hst1⟩
  have HS1 := Lib.hid hst2
  clear hst1 hst2
  have P1 := Lib.hid (fun (i : Nat) (h : i + 3 ≤ len) wx => hasHead_any ao len cap (i : Int) true (decide_eq_true (by omega)) wx (by omega) (by omega))
  have P0 := Lib.hid (fun (i : Nat) (hi : i < len) (h : ¬ i + 3 ≤ len) wx => hasHead_any ao len cap (i : Int) false (decide_eq_false (by omega)) wx (by omega) (by omega))
  have CH : Hid (∀ wx j, Below w.heap.size w wx → j + 3 ≤ len → Calls Tryd.prog 52 #[.slice ao len cap, .int .i64 (j : Int)] wx fun e w' => e = .returned (hdV (by' l j) (by' l (j + 1)) (by' l (j + 2))) ∧ Below wx.heap.size wx w') :=
    fun wx j hwx hj => headAt_any ao len cap l j wx (HG.out.later hwx) hb hj
  go_enter Tryd.func34, Tryd.ntmps34
  go_wp2
  clear hmk hmm
  go_loopw [13] (fun v13 wr => ∃ (i n : Nat) (g : Lit → Value) (f : Lit → List Nat), i ≤ len ∧ n ≤ i ∧ v13 = .int .i64 (i : Int) ∧ FI l i f ∧ Own.St w.heap.size w wr [AG bM n g f, AQ (some ⟨pA, 0, none⟩) len len (upto l len i)]) (fun v13 _ => len - (intOf v13).toNat)
  case atStart => exact ⟨0, 0, _, _, Nat.zero_le _, Nat.le_refl _, rfl, FI.zero l, by rw [upto_zero]; exact HS1.out⟩
  case round =>
    obtain ⟨i, n, g, f, hil, hni, rfl, hfi, H⟩ := hrel
    have H := Lib.hid H
    have HFI := Lib.hid hfi
    clear HS1 hfi
    by_cases hi : i < len
    · by_cases h3 : i + 3 ≤ len
      · have Q1 := Lib.hid (P1.out i h3)
        have K1 := Lib.hid (CH.out wr i H.out.below h3)
        clear P1 P0
        go_wp2_with (refine (Q1.out _).mono ?_; clear Q1; rintro e w' ⟨rfl, rfl⟩)
        refine K1.out.mono ?_
        clear K1
        rintro e w3 ⟨rfl, h3'⟩
        have H3 := Lib.hid (H.out.later h3')
        clear h3' H
        obtain ⟨kl, hkl⟩ : ∃ kl, kl = hdL (by' l i) (by' l (i + 1)) (by' l (i + 2)) := ⟨_, rfl⟩
        have HKL := Lib.hid hkl
        have hW : Calls Tryd.prog 51 #[g kl, .int .i64 (i : Int)] w3 fun e w' => ∃ v', e = .returned v' ∧ w3 = w' ∧ Slc w3 v' (near l i) ∧ v'.ownBlock = (g kl).ownBlock := by
          obtain ⟨q1, q2⟩ := HFI.out.few (by' l i) (by' l (i + 1)) (by' l (i + 2))
          rw [← hkl] at q1 q2
          have h := within_any (g kl) (f kl) i w3 (ag_slc H3.out 0 rfl kl) (by omega) (fun k hk => by have := q2 k hk; omega) (by omega)
          have e := HFI.out.nearby
          rw [← hkl] at e
          rw [e] at h
          exact h
        have HW := Lib.hid hW
        clear hW hkl
        go_wp2_with (refine wpList_val rfl (look_op H3.out 0 rfl _ _ _ rfl _ rfl rfl) ?_; rw [← HKL.out])
        refine HW.out.mono ?_
        clear HW
        rintro e w4 ⟨v', rfl, rfl, hs, hvb⟩
        have HVB := Lib.hid hvb
        have HSL := Lib.hid hs
        clear hvb hs
        have HCH := Lib.hid (choose_in H3.out.below HG.out i v' hb h3 HSL.out)
        obtain ⟨d, x, hdx⟩ : ∃ d x, longest l i = (d, x) := ⟨_, _, rfl⟩
        rw [hdx] at HCH
        have HDX := Lib.hid hdx
        clear hdx
        go_wp2_with (fail)
        refine HCH.out.mono ?_
        clear HCH
        rintro e w5 ⟨rfl, h5⟩
        have H5 := Lib.hid (H3.out.later h5)
        have HSL5 := Lib.hid (HSL.out.later h5)
        clear h5 H3 HSL
        obtain ⟨⟨u0, c0⟩, ⟨u1, c1⟩, f0, f1, hput⟩ := aq_put H5.out 1 0 (by decide) rfl rfl i hi
        obtain ⟨hp1, hp2⟩ := hput d x
        have H6 := Lib.hid hp1
        have HSL6 := Lib.hid (hp2 v' _ kl HSL5.out HVB.out)
        clear hput hp1 hp2 H5 HSL5
        go_wp2_with (fail)
        obtain ⟨w6, hw6⟩ : ∃ w6, w6 = (w5.setCell ⟨pA, i * 2, none⟩ (.int .i64 (d : Int))).setCell ⟨pA, i * 2 + 1, none⟩ (.int .i64 (x : Int)) := ⟨_, rfl⟩
        rw [← hw6] at H6 HSL6 ⊢
        clear hw6 c0 c1 f0 f1 u0 u1
        refine (CH.out w6 i H6.out.below h3).mono ?_
        rintro e w7 ⟨rfl, h7⟩
        have H7 := H6.out.later h7
        have HSL7 := HSL6.out.later h7
        rw [List.set_cons_succ, List.set_cons_zero, ← HDX.out, upto_set l len i hi] at H7
        clear h7 H6 HSL6
        obtain ⟨v2, w8, hr1, w9, g', hr2, hst9⟩ := ag_push (H7.alloc (.cells #[.int .i64 (i : Int)] 3)) 0 rfl (by' l i) (by' l (i + 1)) (by' l (i + 2)) 100 v' (near l i)
          (HSL7.later ((Below.refl _ _).alloc (Nat.le_refl _) _)) (by rw [HVB.out, HKL.out]) (by omega) i ⟨w7.heap.size, 0, none⟩ (by simp [nv]) rfl (by have := near_len l i; omega)
        have HR1 := Lib.hid hr1
        have H9 := Lib.hid hst9
        have HFN := Lib.hid HFI.out.next
        clear hr1 hst9 H7 HSL7
        go_wp2_with (at_builtin; refine wpList_app rfl (.tmp 38) (.tmp 40) rfl v' ⟨w7.heap.size, 0, none⟩ rfl rfl v2 w8 HR1.out ?_)
        go_roundw
        case rel => exact ⟨i + 1, n + 1, g', _, by omega, by omega, by go_num, HFN.out, H9.out⟩
        case measure => simp [intOf]; omega
      · have Q0 := Lib.hid (P0.out i hi h3)
        obtain ⟨T, hrow, hst⟩ := row_out H.out 1 rfl
        rw [upto_end l len i HL.out hil (by omega)] at hrow
        have HR := Lib.hid hrow
        have HS := Lib.hid hst
        clear hrow hst H P0 P1
        go_wp2_with (refine (Q0.out _).mono ?_; clear Q0; rintro e w' ⟨rfl, rfl⟩)
        go_ret
        exact ⟨_, _, T, rfl, HR.out, HS.out⟩
    · obtain ⟨T, hrow, hst⟩ := row_out H.out 1 rfl
      rw [upto_end l len i HL.out hil (by omega)] at hrow
      have HR := Lib.hid hrow
      have HS := Lib.hid hst
      clear hrow hst H P0 P1
      go_wp2
      go_ret
      exact ⟨_, _, T, rfl, HR.out, HS.out⟩

/-- THE LANDED PACKAGE KEEPS IT -/
theorem kept (W : World) : Kept W where
  common ao len cap l i k w _ hG hb _ _ _ _ := (common_any ao len cap l i k w hG.view hG.size (by omega)).mono fun e w' ⟨he, q, hq⟩ => ⟨he, by rw [hq]; exact below_drewN _ _ q⟩
  all ao len cap l w _ hG hb := all_any ao len cap l w hG (by omega)
end Mat
end Go.Proofs.YtllmogicmimjlaaDoor

end
section
namespace Go.Proofs.YtllmogicmimjlaaDoor
open Go.RowKit Go.Own
namespace Lz
open Go.MatM Go.LzM Byt
open Mat (AQ aq_at aq_len alls)

set_option maxHeartbeats 1000000 in
theorem isLit_st {B : Nat} {w0 w : World} {Ps : List Asn} {ao : Option Addr} {n cap : Nat} {ps : List (Nat × Nat)} (H : Own.St B w0 w Ps) (i : Nat) (hi : Ps[i]? = some (AQ ao n cap ps)) (j : Nat) (hj : j < n) (hn : n ≤ 1000000000) (m x : Nat) (hm : (ps.getD j (0, 0)).2 = m) (hx : (ps.getD (j + 1) (0, 0)).2 = x) (hx0 : ¬ j + 1 < n → x = 0) :
    Calls Tryd.prog 35 #[.slice ao n cap, .int .i64 (j : Int)] w fun e w' => e = .returned (.bool (decide (m = 0 ∨ m < x))) ∧ w = w' := by
  obtain ⟨g, rfl, _, hc⟩ := aq_at H i hi j hj
  rw [hm, Nat.mul_comm] at hc
  by_cases hj1 : j + 1 < n
  · obtain ⟨g', hg', _, hc2⟩ := aq_at H i hi (j + 1) hj1
    cases hg'
    rw [hx, Nat.mul_comm] at hc2
    obtain ⟨j1, hj1d⟩ : ∃ j1, j1 = j + 1 := ⟨_, rfl⟩
    rw [← hj1d] at hc2 hj1
    have e1 : (j : Int) + 1 = (j1 : Int) := by omega
    clear hi H hm hx hx0 hj1d
    by_cases h0 : m = 0
    · have hv : decide (m = 0 ∨ m < x) = true := by simp [h0]
      have hg0 : ((m : Int) == 0) = true := by simp [h0]
      rw [hv]
      clear hv h0
      go_enter Tryd.func35, Tryd.ntmps35
      go_wp2
      go_ret
      exact ⟨rfl, rfl⟩
    · have hv : decide (m = 0 ∨ m < x) = decide (m < x) := by simp [h0]
      have hg0 : ((m : Int) == 0) = false := by simp [h0]
      rw [hv]
      clear hv
      go_enter Tryd.func35, Tryd.ntmps35
      go_wp2
      go_ret
      exact ⟨rfl, rfl⟩
  · obtain rfl := hx0 hj1
    have e1 : ¬ ((j : Int) + 1 < (n : Int)) := by omega
    clear hi H hm hx hx0
    by_cases h0 : m = 0
    · have hv : decide (m = 0 ∨ m < 0) = true := by simp [h0]
      have hg0 : ((m : Int) == 0) = true := by simp [h0]
      rw [hv]
      clear hv h0
      go_enter Tryd.func35, Tryd.ntmps35
      go_wp2
      go_ret
      exact ⟨rfl, rfl⟩
    · have hv : decide (m = 0 ∨ m < 0) = false := by simp [h0]
      have hg0 : ((m : Int) == 0) = false := by simp [h0]
      have hz : ¬ (m : Int) < 0 := by omega
      rw [hv]
      clear hv
      go_enter Tryd.func35, Tryd.ntmps35
      go_wp2
      go_ret
      exact ⟨by simp, rfl⟩

theorem all_st' {B : Nat} {w0 w w' : World} {Ps : List Asn} {l : Bs} {len : Nat} {e : Ending} (H : Own.St B w0 w Ps) (h : Mat.AllDone l len w e w') : ∃ ao cap, e = .returned (.slice ao len cap) ∧ Own.St B w0 w' (AQ ao len cap (alls l) :: Ps) := by
  obtain ⟨ao, cap, T, he, hr, hs⟩ := h
  exact ⟨ao, cap, he, H.new (AQ ao len cap (alls l)) hr hs⟩
theorem alls_next (b : Bs) (i : Nat) : (alls b).getD i (0, 0) = longest b i := by
  unfold Mat.alls
  by_cases h : i < b.length
  · simp [h]
  · rw [longest_out b i (by omega)]; simp [List.getD, h]

set_option maxHeartbeats 8000000 in
theorem encode_any (ao : Option Addr) (n cap : Nat) (b : Bs) (w : World) (hg : Given w ao n cap b) (hb : n ≤ 1000000) :
    Calls Tryd.prog 14 #[.slice ao n cap] w fun e w' => ∃ v, e = .returned v ∧ Reads (enc b) w v w' := by
  have HG := Lib.hid hg
  have HN := Lib.hid hg.size
  have CA := Lib.hid (Mat.all_any ao n cap b w hg hb)
  clear hg
  have H0 := Lib.hid (ab_nil (Own.St.start w))
  go_enter Tryd.func14, Tryd.ntmps14
  go_wp2_with (fail)
  refine CA.out.mono ?_
  intro e w1 h1
  obtain ⟨aq, cq, rfl, k1⟩ := all_st' H0.out h1
  have H1 := Lib.hid k1.swap2
  clear k1 h1 H0 CA
  go_wp2
  go_loopw [3, 5, 6] (fun v3 v5 v6 wr => ∃ (i fr : Nat) (done : Bs) (ax : Option Addr) (k cx : Nat), v6 = .int .i64 (i : Int) ∧ v5 = .int .i64 (fr : Int) ∧ v3 = .slice ax k cx ∧ fr ≤ i ∧ i ≤ n ∧ Own.St w.heap.size w wr [AB ax k cx done, AQ aq n cq (alls b)] ∧ done ++ encF (b.length - i) b fr i = enc b) (fun _ _ v6 _ => n - (intOf v6).toNat)
  case atStart => exact ⟨0, 0, [], none, 0, 0, rfl, rfl, rfl, Nat.le_refl _, Nat.zero_le _, H1.out, rfl⟩
  case round =>
    obtain ⟨i, fr, done, ax, k, cx, rfl, rfl, rfl, hfi, hin, H, E⟩ := hrel
    have H := Lib.hid H
    have E := Lib.hid E
    clear H1
    have hkb : k ≤ 2 * n := by
      have h1 := congrArg List.length E.out
      have h2 := enc_len b
      have h3 := (ab_len H.out 0 rfl).1
      rw [List.length_append] at h1
      rw [HN.out] at h2
      omega
    by_cases hi : (i : Int) < (n : Int)
    · obtain ⟨d, m, hdm⟩ : ∃ d m, longest b i = (d, m) := ⟨_, _, rfl⟩
      obtain ⟨d2, m2, hdm2⟩ : ∃ d m, longest b (i + 1) = (d, m) := ⟨_, _, rfl⟩
      have CI := Lib.hid (isLit_st H.out 1 rfl i (by omega) (by omega) m m2 (by rw [alls_next, hdm]) (by rw [alls_next, hdm2]) (fun h => by have e := longest_out b (i + 1) (by rw [HN.out]; omega); rw [hdm2] at e; exact congrArg Prod.snd e))
      by_cases hlit : m = 0 ∨ m < m2
      · have HLIT : Hid (encF (b.length - i) b fr i = encF (b.length - (i + 1)) b fr (i + 1)) := enc_lit b fr i (by rw [HN.out]; omega) (by rw [hdm, hdm2]; exact hlit)
        rw [decide_eq_true hlit] at CI
        clear hdm hdm2 hlit
        go_wp2_with (fail)
        refine CI.out.mono ?_
        clear CI
        rintro e w1 ⟨rfl, rfl⟩
        go_wp2_with (fail)
        go_roundw
        case rel => exact ⟨i + 1, fr, done, ax, k, cx, by go_num, rfl, rfl, by omega, by omega, H.out, by rw [← HLIT.out]; exact E.out⟩
        case measure => simp [intOf]; omega
      · rw [decide_eq_false hlit] at CI
        obtain ⟨a1, a2, a3, a4, a5, a6, _, _⟩ := longest_runs b i d m hdm (by omega)
        have HM := Lib.hid (enc_match b fr i (by rw [HN.out]; omega) (by rw [hdm, hdm2]; exact hlit))
        rw [hdm] at HM
        obtain ⟨g, rfl, hq1, hq2⟩ := aq_at H.out 1 rfl i (by omega)
        rw [alls_next, hdm, Nat.mul_comm] at hq1 hq2
        obtain ⟨c1, hc1⟩ : ∃ c, c = UInt8.ofNat (128 + m - 3) := ⟨_, rfl⟩
        obtain ⟨c2, hc2⟩ : ∃ c, c = UInt8.ofNat (d - 1) := ⟨_, rfl⟩
        have hv1 : c1.toNat = 128 + m - 3 := by rw [hc1, ofNat_toNat _ (by omega)]
        have hv2 : c2.toNat = d - 1 := by rw [hc2, ofNat_toNat _ (by omega)]
        have hs1 : (m : Int) - 3 + 128 = (c1.toNat : Int) := by omega
        have hs2 : (d : Int) - 1 = (c2.toNat : Int) := by omega
        have hb1 : c1.toNat ≤ 255 := by omega
        have hb2 : c2.toNat ≤ 255 := by omega
        have him : i + m ≤ n := by rw [HN.out] at a6; exact a6
        have hm3 : 3 ≤ m := a4
        obtain ⟨q, hq⟩ : ∃ q, q = i - fr := ⟨_, rfl⟩
        obtain ⟨am, cm, hCM1, hCM2⟩ := cutMid (ao := ao) (l := b) (m := n) (cap := cap) fr i HN.out hfi hin HG.out.room.1 HG.out.room.2 HG.out.nil
        rw [← hq] at hCM1 hCM2
        obtain ⟨pt, hpt⟩ : ∃ pt, pt = (b.take i).drop fr := ⟨_, rfl⟩
        rw [← hpt] at hCM2
        obtain ⟨pl, hpl⟩ : ∃ pl, pl = plain pt := ⟨_, rfl⟩
        obtain ⟨enx, henx⟩ : ∃ x, x = encF (b.length - (i + m)) b (i + m) (i + m) := ⟨_, rfl⟩
        have HE : Hid (enc b = done ++ (pl ++ (c1 :: c2 :: enx))) := by
          show enc b = done ++ (pl ++ (c1 :: c2 :: enx))
          rw [← E.out, HM.out, hpl, hc1, hc2, henx, hpt]
        have HL : Hid (k + pl.length + 2 ≤ 2 * n) := by
          show k + pl.length + 2 ≤ 2 * n
          have h1 := congrArg List.length HE.out
          have h2 := enc_len b
          have h3 := (ab_len H.out 0 rfl).1
          rw [HN.out] at h2
          simp only [List.length_append, List.length_cons] at h1
          omega
        have C3 : Hid (∀ nq, Calls Tryd.prog 36 #[.slice ax k cx, .slice am q cm] (wr.drewN nq) fun e w' => ∃ a' c' kk, kk = k + pl.length ∧ e = .returned (.slice a' kk c') ∧ Own.St w.heap.size w w' [AB a' kk c' (done ++ pl), AQ (some ⟨g, 0, none⟩) n cq (alls b)]) := by
          intro nq
          have hst := H.out.drewN nq
          have hv := hCM2.view _ _ (View.below (View.below HG.out.view H.out.below) (w' := wr.drewN nq) ⟨rfl, rfl, rfl, Nat.le_refl _, fun _ _ => rfl⟩)
          refine (putLits_st hst (by intro P hP; simp only [List.mem_singleton] at hP; subst hP; exact ARow.cellish _ _ _ _ _) hv hCM2.len hCM2.cap.1 hCM2.cap.2 (by omega)).mono ?_
          rintro e w' ⟨a', c', he, hs⟩
          rw [← hpl] at he hs
          exact ⟨a', c', _, rfl, he, hs⟩
        have CM1 := Lib.hid hCM1
        have HENX := Lib.hid henx
        clear hdm hdm2 hlit hc1 hc2 hv1 hv2 hpl hpt henx hCM1 hCM2 HM hq a1 a2 a3 a4 a5 a6
        go_wp2_with (fail)
        refine CI.out.mono ?_
        clear CI
        rintro e w1 ⟨rfl, rfl⟩
        go_wp2_with (fail)
        go_quiet (fail)
        clear hq1 hq2
        go_wp2_with (refine Byt.wpList_val rfl (CM1.out _ (.tmp 31) (.tmp 32) (.tmp 33) rfl _ _ rfl rfl rfl) ?_)
        refine (C3.out nq).mono ?_
        clear C3
        rintro e w3 ⟨ap, cp, kk, hkk, rfl, h3⟩
        have H3 := Lib.hid h3
        have hkb3 : kk + 2 ≤ 2 * n := by have := HL.out; omega
        have HKK := Lib.hid hkk
        clear h3 hkk H
        go_wp2_with (at_builtin; refine Byt.wpList_ab_append rfl (.tmp 36) (.tmp 44) rfl (H3.out.alloc (.cells #[.int .u8 (c1.toNat : Int), .int .u8 (c2.toNat : Int)] 5)) 0 rfl rfl (some ⟨w3.heap.size, 0, none⟩) 2 2 [c1, c2] rfl (by intro h; cases h) rfl (two_cells w3 c1 c2 _) (by omega) ?_; intro a5 c5 w5 h5; simp only [List.set_cons_zero] at h5; have H5 := Lib.hid h5; clear h5)
        go_roundw
        case rel =>
          refine ⟨i + m, i + m, done ++ pl ++ [c1, c2], a5, kk + 2, c5, by go_num, by go_num, rfl, Nat.le_refl _, him, H5.out, ?_⟩
          rw [HE.out, HENX.out]
          simp
        case measure => simp [intOf]; omega
    · have hin2 : i = n := by omega
      have HM : Hid (enc b = done ++ plain (b.drop fr)) := by
        show enc b = done ++ plain (b.drop fr)
        rw [← E.out, enc_end b fr i (by rw [HN.out]; omega)]
      obtain ⟨q, hq⟩ : ∃ q, q = n - fr := ⟨_, rfl⟩
      obtain ⟨am, cm, hCM1, hCM2⟩ := cutFrom (ao := ao) (l := b) (m := n) (cap := cap) fr HN.out (by omega) HG.out.room.1 HG.out.room.2 HG.out.nil
      rw [← hq] at hCM1 hCM2
      obtain ⟨pl, hpl⟩ : ∃ pl, pl = plain (b.drop fr) := ⟨_, rfl⟩
      rw [← hpl] at HM
      have C3 : Hid (Calls Tryd.prog 36 #[.slice ax k cx, .slice am q cm] wr fun e w' => ∃ a' c', e = .returned (.slice a' (k + pl.length) c') ∧ Own.St w.heap.size w w' [AB a' (k + pl.length) c' (done ++ pl), AQ aq n cq (alls b)]) := by
        have hv := hCM2.view _ _ (View.below HG.out.view H.out.below)
        have h := putLits_st H.out (by intro P hP; simp only [List.mem_singleton] at hP; subst hP; exact ARow.cellish _ _ _ _ _) hv hCM2.len hCM2.cap.1 hCM2.cap.2 (by omega)
        rw [← hpl] at h
        exact h
      have CM1 := Lib.hid hCM1
      clear hpl hCM1 hCM2 hq hin2
      go_wp2_with (refine Byt.wpList_val rfl (CM1.out _ (.tmp 51) (.tmp 52) rfl _ _ rfl rfl) ?_)
      refine C3.out.mono ?_
      clear C3
      rintro e w3 ⟨ap, cp, rfl, h3⟩
      have H3 := Lib.hid h3
      clear h3
      go_wp2_with (fail)
      go_ret
      have hk := (ab_len H3.out 0 rfl).1
      have h3 := H3.out
      rw [← HM.out] at hk h3
      rw [← hk] at h3 ⊢
      exact ⟨_, rfl, ap, cp, rfl, given_own h3 0 rfl, h3.below⟩

theorem pack_any (ao : Option Addr) (n cap : Nat) (b : Bs) (w : World) (hg : Given w ao n cap b) (hb : n ≤ 1000000) :
    Calls Tryd.prog 6 #[.slice ao n cap] w fun e w' => ∃ v, e = .returned v ∧ Reads (pack b) w v w' := by
  have HG := Lib.hid hg
  have HN := Lib.hid hg.size
  have C1 := Lib.hid (encode_any ao n cap b w hg hb)
  clear hg
  go_enter Tryd.func6, Tryd.ntmps6
  go_wp2_with (fail)
  refine C1.out.mono ?_
  rintro e w1 ⟨v, rfl, a1, c1, rfl, gs, h1⟩
  obtain ⟨k, hk⟩ : ∃ k, k = (enc b).length := ⟨_, rfl⟩
  rw [← hk] at gs ⊢
  have HK := Lib.hid hk
  have GS := Lib.hid gs
  have GB := Lib.hid (HG.out.later h1)
  have H1 := Lib.hid ((Own.St.start w).later h1)
  have hkb : k ≤ 2 * n := by have := enc_len b; rw [HN.out] at this; omega
  clear h1 gs C1 hk
  by_cases hkn : (k : Int) < (n : Int)
  · have HP : Hid (pack b = [1] ++ enc b) := by
      show pack b = [1] ++ enc b
      unfold pack
      rw [if_pos (by rw [HN.out, ← HK.out]; omega)]
      rfl
    have HA := Lib.hid (ab_one H1.out 1)
    have HC := Lib.hid (vcells (vlater GS.out.view ((Own.St.start w1).alloc (.cells #[.int .u8 (((1 : UInt8).toNat : Nat) : Int)] 5)).below))
    have HNO := Lib.hid (given_nil GS.out)
    go_wp2_with (at_builtin; refine Byt.wpList_ab_append rfl (.tmp 11) (.tmp 12) rfl HA.out 0 rfl rfl a1 k c1 (enc b) rfl HNO.out GS.out.size HC.out (by omega) ?_; intro a4 c4 w4 h4; simp only [List.set_cons_zero] at h4; have H4 := Lib.hid h4; clear h4)
    go_ret
    have hk2 := (ab_len H4.out 0 rfl).1
    rw [← HP.out] at hk2
    refine ⟨_, rfl, a4, c4, by rw [hk2]; rfl, ?_, H4.out.below⟩
    rw [hk2, HP.out]
    exact given_own H4.out 0 rfl
  · have HP : Hid (pack b = [0] ++ b) := by
      show pack b = [0] ++ b
      unfold pack
      rw [if_neg (by rw [HN.out, ← HK.out]; omega)]
      rfl
    have HA := Lib.hid (ab_one H1.out 0)
    have HC := Lib.hid (vcells (vlater GB.out.view ((Own.St.start w1).alloc (.cells #[.int .u8 (((0 : UInt8).toNat : Nat) : Int)] 5)).below))
    have HNO := Lib.hid (given_nil GB.out)
    go_wp2_with (at_builtin; refine Byt.wpList_ab_append rfl (.tmp 14) (.tmp 15) rfl HA.out 0 rfl rfl ao n cap (b) rfl HNO.out GB.out.size HC.out (by omega) ?_; intro a4 c4 w4 h4; simp only [List.set_cons_zero] at h4; have H4 := Lib.hid h4; clear h4)
    go_ret
    have hk2 := (ab_len H4.out 0 rfl).1
    rw [← HP.out] at hk2
    refine ⟨_, rfl, a4, c4, by rw [hk2]; rfl, ?_, H4.out.below⟩
    rw [hk2, HP.out]
    exact given_own H4.out 0 rfl
end Lz
end Go.Proofs.YtllmogicmimjlaaDoor

end
section
namespace Go.Proofs.YtllmogicmimjlaaDoor
open Go.RowKit Go.Own
namespace Lz
open Go.MatM Go.LzM Byt

set_option maxRecDepth 10000 in
set_option maxHeartbeats 16000000 in
theorem decode_any (ao : Option Addr) (n cap : Nat) (p : Bs) (M : Nat) (w : World) (hg : Given w ao n cap p) (hb : n ≤ 1000000) (hM : M ≤ 9223372036854775807) :
    Calls Tryd.prog 32 #[.slice ao n cap, .int .i64 (M : Int)] w (UnDone (dec M p []) w) := by
  have HG := Lib.hid hg
  obtain ⟨X, hX⟩ : ∃ X, X = dec M p [] := ⟨_, rfl⟩
  rw [← hX]
  have HX := Lib.hid hX
  have H0 := Lib.hid (ab_nil (Own.St.start w))
  clear hg hX
  go_enter Tryd.func32, Tryd.ntmps32
  go_wp2
  go_loopw [0, 6] (fun v0 v6 wr => ∃ (rest out : Bs) (ar ax : Option Addr) (m cr k cx : Nat), v0 = .slice ar m cr ∧ v6 = .slice ax k cx ∧ Given w ar m cr rest ∧ m ≤ n ∧ k ≤ M ∧ k + 130 * m ≤ 130 * n ∧ Own.St w.heap.size w wr [AB ax k cx out] ∧ X = dec M rest out) (fun v0 _ _ => lenV v0)
  case atStart => exact ⟨p, [], ao, none, n, cap, 0, 0, rfl, rfl, HG.out, Nat.le_refl _, Nat.zero_le _, by omega, H0.out, HX.out⟩
  case round =>
    obtain ⟨rest, out, ar, ax, m, cr, k, cx, rfl, rfl, G, hmn, hkM, hkb, H, E⟩ := hrel
    have G := Lib.hid G
    have H := Lib.hid H
    have E := Lib.hid E
    have HKL := Lib.hid (ab_len H.out 0 rfl).1
    have HRL := Lib.hid G.out.size
    clear H0 HG HX
    by_cases hm0 : m = 0
    · have HR : Hid (X = (out, 0)) := by
        show X = (out, 0)
        rw [E.out, List.eq_nil_of_length_eq_zero (show rest.length = 0 by rw [HRL.out]; exact hm0), dec_nil]
      subst hm0
      go_wp2
      go_ret2
      rw [HR.out]
      refine ⟨_, rfl, ax, cx, by rw [HKL.out]; rfl, ?_, H.out.below⟩
      rw [HKL.out]
      exact given_own H.out 0 rfl
    · obtain ⟨c, hc⟩ : ∃ c, c = rest.getD 0 0 := ⟨_, rfl⟩
      obtain ⟨d, hd⟩ : ∃ d, d = rest.getD 1 0 := ⟨_, rfl⟩
      have GR := Lib.hid (G.out.later H.out.below)
      have CF := first_any ar m cr rest wr GR.out (by omega) (by omega) c d hc.symm hd.symm
      have hmpos : 0 < m := by omega
      have hc8 : c.toNat ≤ 255 := by have := c.toNat_lt; omega
      have hd8 : d.toNat ≤ 255 := by have := d.toNat_lt; omega
      obtain ⟨sp, hsp⟩ : ∃ x, x = M - k := ⟨_, rfl⟩
      have e2 : (M : Int) - (k : Int) = (sp : Int) := by omega
      have HSP := Lib.hid hsp
      clear hsp
      unfold itemR at CF
      by_cases hlit : c.toNat < 128
      · rw [if_pos hlit] at CF
        obtain ⟨q, hq⟩ : ∃ q, c.toNat + 2 = q := ⟨_, rfl⟩
        obtain ⟨r, hr⟩ : ∃ r, c.toNat + 1 = r := ⟨_, rfl⟩
        rw [hq, hr] at CF
        by_cases hmq : m < q
        · rw [if_pos hmq] at CF
          have HX2 : Hid (X = ([], 60)) := by
            show X = ([], 60)
            have h := dec_lit_long M rest out 0 (by rw [HRL.out]; omega) c hc.symm hlit (by rw [HRL.out]; omega)
            rw [List.drop_zero] at h
            rw [E.out, h]
          unfold itemV at CF
          have CF := Lib.hid CF
          clear hc hd hlit hq hr hmq
          go_wp2_with (fail)
          refine CF.out.mono ?_
          clear CF
          rintro e w1 ⟨rfl, h1⟩
          have H1 := Lib.hid (H.out.later h1)
          clear h1
          go_wp2
          go_ret2
          exact un_err X 60 HX2.out (H1.out.alloc _).below
        rw [if_neg hmq] at CF
        by_cases hrs : sp < r
        · have HX2 : Hid (X = ([], 4)) := by
            show X = ([], 4)
            have h := dec_lit_most M rest out 0 (by rw [HRL.out]; omega) c hc.symm hlit (by rw [HRL.out]; omega) (by rw [HKL.out]; have := HSP.out; omega)
            rw [List.drop_zero] at h
            rw [E.out, h]
          unfold itemV at CF
          have CF := Lib.hid CF
          clear hc hd hlit hq hr hmq
          go_wp2_with (fail)
          refine CF.out.mono ?_
          clear CF
          rintro e w1 ⟨rfl, h1⟩
          have H1 := Lib.hid (H.out.later h1)
          clear h1
          go_wp2
          go_ret2
          exact un_err X 4 HX2.out (H1.out.alloc _).below
        have HX2 : Hid (X = dec M (rest.drop q) (out ++ (rest.take q).drop 1)) := by
          show X = dec M (rest.drop q) (out ++ (rest.take q).drop 1)
          have h := dec_lit_ok M rest out 0 (by rw [HRL.out]; omega) c hc.symm hlit (by rw [HRL.out]; omega) (by rw [HKL.out]; have := HSP.out; omega)
          rw [List.drop_zero, show 0 + 1 + (c.toNat + 1) = q by omega] at h
          rw [E.out, h]
        have HQ1 := Lib.hid (show q - 1 = r by omega)
        have CPB : Hid (∀ wx Q, Own.St w.heap.size w wx [AB ax k cx out, Q] → Calls Tryd.prog 49 #[.slice ax k cx, itemV 2 q r 0, .slice ar m cr] wx fun e w' => ∃ a' c', e = .returned (.slice a' (k + r) c') ∧ Own.St w.heap.size w w' [AB a' (k + r) c' (out ++ (rest.take q).drop 1), Q]) := by
          intro wx Q hx
          have h := putB_lit hx (View.below G.out.view hx.below) HRL.out G.out.room.1 G.out.room.2 G.out.nil q r (by omega) (by omega) (by omega)
          rw [HQ1.out] at h
          exact h
        obtain ⟨a2, c2, hF1, hF2⟩ := cutFrom (ao := ar) (l := rest) (m := m) (cap := cr) q HRL.out (by omega) G.out.room.1 G.out.room.2 G.out.nil
        have CT := Lib.hid hF1
        have CT2 := Lib.hid hF2
        unfold itemV at CF CPB
        have CF := Lib.hid CF
        have hkr : k + r ≤ M := by have := HSP.out; omega
        have hkr2 : k + r + 130 * (m - q) ≤ 130 * n := by omega
        have hq0 : 0 < q := by omega
        have hqm : q ≤ m := by omega
        clear hc hd hlit hq hr hmq hF1 hF2
        go_wp2_with (fail)
        refine CF.out.mono ?_
        clear CF
        rintro e w1 ⟨rfl, h1⟩
        have H1 := Lib.hid (H.out.later h1)
        clear h1
        have CPB1 := Lib.hid (CPB.out _ _ (H1.out.boxV 95 [.int .i64 2, .int .i64 (q : Int), .int .i64 (r : Int), .int .i64 0]).swap2)
        go_wp2_with (fail)
        refine CPB1.out.mono ?_
        clear CPB1 CPB
        rintro e w2 ⟨a4, c4, rfl, h2⟩
        have hcl := (h2.cellV 1 rfl 1 rfl).1
        have H2 := Lib.hid (h2.perm (List.Perm.swap _ _ _))
        clear h2
        go_wp2_with (refine Byt.wpList_val rfl (CT.out _ (.tmp 37) (.tmp 39) rfl _ _ rfl rfl) ?_)
        go_roundw
        case rel => exact ⟨rest.drop q, _, a2, a4, m - q, c2, k + r, c4, rfl, rfl, ⟨CT2.out.view _ _ G.out.view, CT2.out.len, CT2.out.cap, CT2.out.none⟩, by omega, hkr, hkr2, H2.out.drop 1, HX2.out⟩
        case measure => simp only [lenV]; omega
      · rw [if_neg hlit] at CF
        by_cases hm2 : m < 2
        · rw [if_pos hm2] at CF
          have HX2 : Hid (X = ([], 60)) := by
            show X = ([], 60)
            have h := dec_ref_end M rest out 0 (by rw [HRL.out]; omega) c hc.symm hlit
            rw [List.drop_zero] at h
            rw [E.out, h]
          unfold itemV at CF
          have CF := Lib.hid CF
          clear hc hd hlit hm2
          go_wp2_with (fail)
          refine CF.out.mono ?_
          clear CF
          rintro e w1 ⟨rfl, h1⟩
          have H1 := Lib.hid (H.out.later h1)
          clear h1
          go_wp2
          go_ret2
          exact un_err X 60 HX2.out (H1.out.alloc _).below
        rw [if_neg hm2] at CF
        obtain ⟨r, hr⟩ : ∃ r, c.toNat - 125 = r := ⟨_, rfl⟩
        obtain ⟨D, hD⟩ : ∃ D, d.toNat + 1 = D := ⟨_, rfl⟩
        have HR0 : Hid (X = if k < D then ([], 60) else if M < k + r then ([], 4) else dec M (rest.drop 2) (copyN out D r)) := by
          show X = _
          have h := dec_ref M rest out 0 (by rw [HRL.out]; omega) c d hc.symm hd.symm hlit
          rw [List.drop_zero, HKL.out, hr, hD] at h
          rw [E.out, h]
        rw [hr, hD] at CF
        unfold itemV at CF
        have CF := Lib.hid CF
        have hrb : r ≤ 130 := by omega
        have hr1 : 1 ≤ r := by omega
        have hDb : D ≤ 256 := by omega
        have hD1 : 1 ≤ D := by omega
        by_cases hkD : k < D
        · have HX2 : Hid (X = ([], 60)) := by
            show X = ([], 60)
            rw [HR0.out, if_pos hkD]
          clear hc hd hlit hm2 hr hD
          go_wp2_with (fail)
          refine CF.out.mono ?_
          clear CF
          rintro e w1 ⟨rfl, h1⟩
          have H1 := Lib.hid (H.out.later h1)
          clear h1
          go_wp2
          go_ret2
          exact un_err X 60 HX2.out (H1.out.alloc _).below
        by_cases hrs : sp < r
        · have HX2 : Hid (X = ([], 4)) := by
            show X = ([], 4)
            rw [HR0.out, if_neg hkD, if_pos (by have := HSP.out; omega)]
          clear hc hd hlit hm2 hr hD
          go_wp2_with (fail)
          refine CF.out.mono ?_
          clear CF
          rintro e w1 ⟨rfl, h1⟩
          have H1 := Lib.hid (H.out.later h1)
          clear h1
          go_wp2
          go_ret2
          exact un_err X 4 HX2.out (H1.out.alloc _).below
        have HX2 : Hid (X = dec M (rest.drop 2) (copyN out D r)) := by
          show X = _
          rw [HR0.out, if_neg hkD, if_neg (by have := HSP.out; omega)]
        have CPB : Hid (∀ wx Q, Own.St w.heap.size w wx [AB ax k cx out, Q] → Calls Tryd.prog 49 #[.slice ax k cx, itemV 1 2 r D, .slice ar m cr] wx fun e w' => ∃ a' c', e = .returned (.slice a' (k + r) c') ∧ Own.St w.heap.size w w' [AB a' (k + r) c' (copyN out D r), Q]) := by
          intro wx Q hx
          exact putB_ref hx D r hD1 (by omega) (by omega)
        obtain ⟨a2, c2, hF1, hF2⟩ := cutFrom (ao := ar) (l := rest) (m := m) (cap := cr) 2 HRL.out (by omega) G.out.room.1 G.out.room.2 G.out.nil
        have CT := Lib.hid hF1
        have CT2 := Lib.hid hF2
        unfold itemV at CPB
        have hkr : k + r ≤ M := by have := HSP.out; omega
        have hkr2 : k + r + 130 * (m - 2) ≤ 130 * n := by omega
        have hm22 : 2 ≤ m := by omega
        clear hc hd hlit hr hD hm2 hF1 hF2
        go_wp2_with (fail)
        refine CF.out.mono ?_
        clear CF
        rintro e w1 ⟨rfl, h1⟩
        have H1 := Lib.hid (H.out.later h1)
        clear h1
        have CPB1 := Lib.hid (CPB.out _ _ (H1.out.boxV 95 [.int .i64 1, .int .i64 2, .int .i64 (r : Int), .int .i64 (D : Int)]).swap2)
        go_wp2_with (fail)
        refine CPB1.out.mono ?_
        clear CPB1 CPB
        rintro e w2 ⟨a4, c4, rfl, h2⟩
        have hcl := (h2.cellV 1 rfl 1 rfl).1
        have H2 := Lib.hid (h2.perm (List.Perm.swap _ _ _))
        clear h2
        go_wp2_with (refine Byt.wpList_val rfl (CT.out _ (.tmp 37) (.tmp 39) rfl _ _ rfl rfl) ?_)
        go_roundw
        case rel => exact ⟨rest.drop 2, _, a2, a4, m - 2, c2, k + r, c4, rfl, rfl, ⟨CT2.out.view _ _ G.out.view, CT2.out.len, CT2.out.cap, CT2.out.none⟩, by omega, hkr, hkr2, H2.out.drop 1, HX2.out⟩
        case measure => simp only [lenV]; omega

set_option maxHeartbeats 4000000 in
theorem unpack_any (ao : Option Addr) (n cap : Nat) (p : Bs) (most : Int) (w : World) (hg : Given w ao n cap p) (hb : n ≤ 1000000) (h0 : -9223372036854775808 ≤ most) (h1 : most ≤ 9223372036854775807) :
    Calls Tryd.prog 13 #[.slice ao n cap, .int .i64 most] w (UnDone (unpack p most.toNat) w) := by
  have HG := Lib.hid hg
  have HN := Lib.hid hg.size
  obtain ⟨M, hM⟩ : ∃ M, M = most.toNat := ⟨_, rfl⟩
  have hmax : max most 0 = (M : Int) := by omega
  have hMb : M ≤ 9223372036854775807 := by omega
  rw [← hM]
  clear hg hM
  obtain ⟨X, hX⟩ : ∃ X, X = unpack p M := ⟨_, rfl⟩
  rw [← hX]
  by_cases hn0 : n = 0
  · have HX : Hid (X = ([], 60)) := by
      show X = ([], 60)
      rw [hX, List.eq_nil_of_length_eq_zero (show p.length = 0 by rw [HN.out, hn0])]; rfl
    have hgo : ((n : Int) == 0) = true := by simp [hn0]
    clear hX hn0
    go_enter Tryd.func13, Tryd.ntmps13
    go_wp2
    go_ret2
    exact un_err X 60 HX.out (Below.refl _ _)
  have hgo : ((n : Int) == 0) = false := by simp [hn0]
  obtain ⟨n1, hn1⟩ : ∃ n1, n = n1 + 1 := ⟨n - 1, by omega⟩
  have hnpos : 0 < n := by omega
  obtain ⟨gb, go, hao, _, _, hc0⟩ := vat HG.out.view (k := 0) (by rw [HN.out]; omega)
  obtain ⟨c0, hcc⟩ : ∃ c, c = p.getD 0 0 := ⟨_, rfl⟩
  rw [← hcc, Nat.add_zero] at hc0
  have hpc : p = c0 :: p.drop 1 := by
    have h := List.drop_eq_getElem_cons (l := p) (i := 0) (by rw [HN.out]; omega)
    rw [List.drop_zero] at h
    rw [hcc]
    simpa [List.getD, show 0 < p.length by rw [HN.out]; omega] using h
  have HC0 := Lib.hid hc0
  obtain ⟨a2, c2, hF1, hF2⟩ := cutFrom (ao := ao) (l := p) (m := n) (cap := cap) 1 HN.out (by omega) HG.out.room.1 HG.out.room.2 HG.out.nil
  rw [show n - 1 = n1 by omega] at hF1 hF2
  have CF := Lib.hid hF1
  have CF2 := Lib.hid hF2
  have G2 : Hid (Given w a2 n1 c2 (p.drop 1)) := ⟨CF2.out.view _ _ HG.out.view, CF2.out.len, CF2.out.cap, CF2.out.none⟩
  clear hF1 hF2
  by_cases hbig : (1 : Int) < (c0.toNat : Int)
  · have HX : Hid (X = ([], 60)) := by
      show X = ([], 60)
      rw [hX, hpc]
      unfold unpack
      simp only
      rw [if_pos (by omega)]
    clear hX hn0 hn1 hpc hcc HC0
    subst hao
    go_enter Tryd.func13, Tryd.ntmps13
    go_wp2
    go_ret2
    exact un_err X 60 HX.out (Below.refl _ _)
  by_cases hz : c0.toNat = 0
  · have hX0 : unpack p M = if M < (p.drop 1).length then ([], 4) else (p.drop 1, 0) := by
      rw [hpc]
      unfold unpack
      simp only
      rw [if_neg (by omega), if_pos hz]
      rfl
    have hl1 : (p.drop 1).length = n1 := by rw [List.length_drop, HN.out]; omega
    rw [hl1] at hX0
    have hgz : ((c0.toNat : Int) == 1) = false := by simp [hz]
    by_cases hlong : M < n1
    · have HX : Hid (X = ([], 4)) := by
        show X = ([], 4)
        rw [hX, hX0, if_pos hlong]
      clear hX hX0 hn0 hn1 hpc hcc HC0 hl1 hz
      subst hao
      go_enter Tryd.func13, Tryd.ntmps13
      go_wp2_with (refine Byt.wpList_val rfl (CF.out _ (.tmp 27) (.const (.int .i64 1)) rfl _ _ rfl rfl) ?_)
      go_ret2
      exact un_err X 4 HX.out (Below.refl _ _)
    · have HX : Hid (X = (p.drop 1, 0)) := by
        show X = (p.drop 1, 0)
        rw [hX, hX0, if_neg hlong]
      have CL := Cod.clone_any (fun k => k < w.heap.size) a2 (p.drop 1) c2 w G2.out.view (by rw [hl1]; omega)
      rw [hl1] at CL
      have CL := Lib.hid CL
      have HL1 := Lib.hid hl1
      clear hX hX0 hn0 hn1 hpc hcc HC0 hl1 hz
      subst hao
      go_enter Tryd.func13, Tryd.ntmps13
      go_wp2_with (first | (refine Byt.wpList_val rfl (CF.out _ (.tmp 27) (.const (.int .i64 1)) rfl _ _ rfl rfl) ?_) | (refine Byt.wpList_val rfl (CF.out _ (.tmp 32) (.const (.int .i64 1)) rfl _ _ rfl rfl) ?_))
      refine CL.out.mono ?_
      clear CL
      rintro e w1 ⟨a3, c3, T, he, hrow, hst⟩
      rw [HL1.out] at he hrow
      subst he
      have H1 := Lib.hid ((Own.St.start w).new (AB a3 n1 c3 (p.drop 1)) hrow hst)
      clear hrow hst
      go_wp2
      go_ret2
      rw [HX.out]
      exact ⟨_, rfl, a3, c3, by rw [HL1.out]; rfl, by rw [HL1.out]; exact given_own H1.out 0 rfl, H1.out.below⟩
  have hX1 : unpack p M = dec M (p.drop 1) [] := by
    have e : unpack (c0 :: p.drop 1) M = dec M (p.drop 1) [] := by
      unfold unpack
      simp only
      rw [if_neg (by omega), if_neg hz]
    rw [← hpc] at e
    exact e
  have hgz : ((c0.toNat : Int) == 1) = true := by simp; omega
  have CD := decode_any a2 n1 c2 (p.drop 1) M w G2.out (by omega) hMb
  rw [← hX1, ← hX] at CD
  have CD := Lib.hid CD
  clear hX hX1 hn0 hpc hcc hz hn1
  subst hao
  go_enter Tryd.func13, Tryd.ntmps13
  go_wp2_with (refine Byt.wpList_val rfl (CF.out _ (.tmp 21) (.const (.int .i64 1)) rfl _ _ rfl rfl) ?_)
  refine CD.out.mono ?_
  clear CD
  rintro e w1 ⟨v, rfl, hr⟩
  have HR := Lib.hid hr
  clear hr
  go_wp2
  go_ret2
  exact ⟨v, rfl, HR.out⟩

/-- THE LANDED PACKAGE KEEPS IT -/
theorem kept (W : World) : Kept W where
  pack ao n cap l w _ hg hn := pack_any ao n cap l w hg (by omega)
  unpack ao n cap p most w _ hg hn h0 h1 := unpack_any ao n cap p most w hg (by omega) h0 h1
end Lz
end Go.Proofs.YtllmogicmimjlaaDoor

end
section
namespace Go.LogM
/-- a block that begins with some bytes, and goes on with others -/
def blk (f : List UInt8) (c : UInt8) : List UInt8 := f.take 256 ++ (List.replicate 256 c).drop (min 256 f.length)
theorem blk_len (f : List UInt8) (c : UInt8) : (blk f c).length = 256 := by
  unfold blk
  rw [List.length_append, List.length_take, List.length_drop, List.length_replicate]
  omega
end Go.LogM
namespace Go.Proofs.YtllmogicmimjlaaDoor
open Go.RowKit Go.Own
namespace Byt
/-- copy(x, b), whichever is longer -/
theorem wpList_ab_copyM {B : Nat} {w0 w : World} {ops : Array Oper} {rest : List Oper} {o : Oper} {a : Act} {Q : Exit → Act → World → Prop} {Ps : List Asn} (hgd : o.guard = none) (d s : Operand)
    (ho : o.op = .call { callee := .builtin .copy, args := #[d, s], argTypes := #[22, 22] }) (H : Own.St B w0 w Ps) (i : Nat) {g n cap : Nat} {l : List UInt8} (hi : Ps[i]? = some (AB (some ⟨g, 0, none⟩) n cap l)) (hd : a.eval d = .slice (some ⟨g, 0, none⟩) n cap)
    (bo : Option Addr) (m c k : Nat) (news : List UInt8) (hx : a.eval s = .slice bo m c) (hk : k = min n m) (hl : news.length = k) (hno : bo = none → m = 0)
    (hc : ∀ a, bo = some a → ∀ j u, (news.map byteV)[j]? = some u → w.cell? (a.add j) = some u)
    (h : ∀ w', Own.St B w0 w' (Ps.set i (AB (some ⟨g, 0, none⟩) n cap (news ++ l.drop k))) → wpList Tryd.prog ops Q rest (a.put o.dst (goInt k)) w') : wpList Tryd.prog ops Q (o :: rest) a w := by
  refine wpList_plain hgd fun K hK => ?_
  have hset := ab_setCells i news 0 w Ps l H hi (by omega)
  rw [List.take_zero, List.nil_append, Nat.zero_add, hl] at hset
  have hlen := (ab_len H i hi).1
  have hcells : ∀ j, j < (news.map byteV).length → (w.cell? ⟨g, 0 + j, none⟩).isSome = true ∧ w.frozen? ⟨g, 0 + j, none⟩ = false := by
    intro j hj
    rw [List.length_map] at hj
    obtain ⟨g', hg', h1, h2, _⟩ := ab_byte H i hi j (by omega)
    cases hg'
    rw [Nat.zero_add]
    exact ⟨by rw [h1]; rfl, h2⟩
  have hrun : (Builtin.copy_ #[22, 22] o.type #[.slice (some ⟨g, 0, none⟩) n cap, .slice bo m c]).run Tryd.prog w = .ok (goInt k) (w.setCells g 0 (news.map byteV)) := by
    cases bo with
    | none =>
      have hm := hno rfl
      subst hm
      obtain rfl : k = 0 := by omega
      obtain rfl : news = [] := List.eq_nil_of_length_eq_zero hl
      exact run_copy_none (P := Tryd.prog) w 22 22 o.type 5 _ none n cap 0 c Tryd.underlying22 info8 (Nat.min_eq_left (Nat.zero_le _))
    | some ad =>
      have := run_copy_cells (P := Tryd.prog) w 22 22 o.type 5 g 0 n cap ad m c (news.map byteV) Tryd.underlying22 info8 (by rw [List.length_map, hl, hk, Nat.min_comm]) (hc ad rfl) (fun j hj => (hcells j hj).1) (fun j hj => (hcells j hj).2) (byteV_one _)
      rw [List.length_map, hl] at this
      exact this
  unfold Oper.wp
  simp [execOp, ho, resolve, invoke, builtin, hd, hx, hrun, Result.andThen]
  exact hK _ _ (h _ hset)
end Byt
namespace Top
open Go.LogM Byt
set_option maxRecDepth 6000 in
set_option maxHeartbeats 4000000 in
theorem block_any {B : Nat} {w0 w : World} {Ps : List Asn} (H : Own.St B w0 w Ps) (ao : Option Addr) (n cap : Nat) (f : List UInt8) (c : UInt8) (hV : View w (fun k => k < B) ao f) (hn : f.length = n) (hno : ao = none → n = 0) :
    Calls Tryd.prog 5 #[.slice ao n cap, .int .u8 (c.toNat : Int)] w fun e w' => ∃ g, e = .returned (.slice (some ⟨g, 0, none⟩) 256 256) ∧ Own.St B w0 w' (AB (some ⟨g, 0, none⟩) 256 256 (blk f c) :: Ps) := by
  have HV : Hid (∀ wx Qs, Own.St B w0 wx Qs → View wx (fun k => k < B) ao f) := fun wx Qs h => View.same hV (Below.both H.below h.below)
  have HN := Lib.hid hn
  have HNO := Lib.hid hno
  obtain ⟨cn, hcn⟩ : ∃ x, x = c.toNat := ⟨_, rfl⟩
  have hc8 : cn ≤ 255 := by have := c.toNat_lt; omega
  rw [← hcn]
  have HCN := Lib.hid hcn
  obtain ⟨k, hk⟩ : ∃ k, k = min 256 n := ⟨_, rfl⟩
  have HK := Lib.hid hk
  clear hcn hV hn hno hk
  go_enter Tryd.func5, Tryd.ntmps5
  obtain ⟨w2, hmk, hst⟩ := ab_make H .i64 .i64 256 (by omega)
  obtain ⟨g, hg⟩ : ∃ g, g = w.heap.size := ⟨_, rfl⟩
  rw [← hg] at hmk hst
  have hmk2 : (Instr.makeSlice 22 (.int .i64 256) (.int .i64 256)).run Tryd.prog w = .ok (.slice (some ⟨g, 0, none⟩) 256 256) w2 := hmk
  have HST := Lib.hid hst
  clear hst hg H hmk
  go_wp2
  clear hmk2
  go_loopw [10] (fun v wr => ∃ i : Nat, i ≤ 256 ∧ v = .int .i64 (i : Int) ∧ Own.St B w0 wr (AB (some ⟨g, 0, none⟩) 256 256 (ones c 256 i) :: Ps)) (fun v _ => 256 - (intOf v).toNat)
  case atStart => exact ⟨0, Nat.zero_le _, rfl, by rw [ones_zero]; exact HST.out⟩
  case round =>
    obtain ⟨i, hi256, rfl, H⟩ := hrel
    have H := Lib.hid H
    clear HST
    by_cases hi : (i : Int) < 256
    · have hin : i < 256 := by omega
      obtain ⟨g', hg', cb, fb, hput⟩ := ab_byte H.out 0 rfl i hin
      cases hg'
      have PUT : Hid (Own.St B w0 (wr.setCell ⟨g, i, none⟩ (.int .u8 (cn : Int))) (AB (some ⟨g, 0, none⟩) 256 256 (ones c 256 (i + 1)) :: Ps)) := by
        have h := hput c
        simp only [List.set_cons_zero] at h
        rw [ones_set c 256 i hin] at h
        rw [HCN.out]
        exact h
      clear hput H
      go_wp2
      go_roundw
      case rel => exact ⟨i + 1, by omega, by go_num, PUT.out⟩
      case measure => simp [intOf]; omega
    · have H2 : Hid (Own.St B w0 wr (AB (some ⟨g, 0, none⟩) 256 256 (List.replicate 256 c) :: Ps)) := by
        have h := H.out
        rw [show i = 256 by omega, ones_all] at h
        exact h
      have HKL : Hid ((f.take 256).length = k) := by show _ = k; rw [List.length_take, HK.out, HN.out]
      have HC := Lib.hid (vcells (vtake (HV.out _ _ H2.out) 256))
      clear H hi256
      go_wp2_with (refine wpList_ab_copyM rfl (.tmp 18) (.tmp 19) rfl H2.out 0 rfl rfl ao n cap k (f.take 256) rfl HK.out HKL.out HNO.out HC.out ?_; intro w7 h; simp only [List.set_cons_zero] at h; have H7 := Lib.hid h; clear h)
      go_ret
      refine ⟨g, rfl, ?_⟩
      have h := H7.out
      rw [HK.out] at h
      unfold blk
      rw [HN.out]
      exact h
/-- the example's note -/
def nT : RecM.Nte := ⟨2, 5, 9, RecM.zsum, 0, []⟩
theorem nT_fits : RecM.Fits nT := ⟨by decide, by decide, rfl, by decide⟩
theorem nT_right : RecM.right nT = true := by kernel_rfl
theorem nT_len : (RecM.laid nT).length = 13 := by rw [RecM.laid_len nT_fits]; kernel_rfl
theorem built_nT : Tryd.prog.built 34 [(0, .int .u8 2), (1, .int .u32 5), (2, .int .u64 9)] = some (Rec.ntC nT Rec.nilV).toArray := by kernel_rfl
set_option maxRecDepth 6000 in
set_option maxHeartbeats 8000000 in
theorem noted_any (w : World) : Calls Tryd.prog 4 #[] w fun e w' => e = .returned (.bool true) ∧ Below w.heap.size w w' := by
  obtain ⟨cs, hcs⟩ : ∃ cs, cs = Rec.ntC nT Rec.nilV := ⟨_, rfl⟩
  obtain ⟨D, hD⟩ : ∃ D, D = RecM.laid nT := ⟨_, rfl⟩
  have hDl : D.length = 13 := by rw [hD]; exact nT_len
  obtain ⟨L, hL⟩ : ∃ L, L = PagM.pages 2 D := ⟨_, rfl⟩
  have hLl : L.length = 1 := by rw [hL, PagM.pages_len, hDl]; rfl
  have BN : Hid (Tryd.prog.built 34 [(0, .int .u8 2), (1, .int .u32 5), (2, .int .u64 9)] = some cs.toArray) := by rw [hcs]; exact built_nT
  have C1 : Hid (Calls Tryd.prog 8 #[.agg cs.toArray] w fun e w' => ∃ a c, e = .returned (.tuple #[.slice a 13 c, .int .i64 0]) ∧ Given w' a 13 c D ∧ Below w.heap.size w w') := by
    have h := Rec.lLay_any nT nT_fits none 0 0 w ⟨.inl rfl, rfl, ⟨Nat.le_refl _, Nat.zero_le _⟩, fun _ => rfl⟩ (by decide)
    rw [Rec.lay_of nT_right, ← hD] at h
    unfold Rec.LayDone at h
    simp only [hDl] at h
    rw [hcs]
    exact h
  have C2 : Hid (∀ (wx : World) a c, Given wx a 13 c D → Calls Tryd.prog 9 #[.int .u8 2, .slice a 13 c] wx fun e w' => ∃ al cl, e = .returned (.tuple #[.slice al 1 cl, .int .i64 0]) ∧ GivenL w' al 1 cl L ∧ Below wx.heap.size wx w') := fun wx a c hg => by
    have h := Pag.splitP_any 2 a 13 c D wx hg (by decide)
    have e : PagM.split 2 D = (L, 0) := by
      unfold PagM.split PagM.splitE
      rw [hL, if_pos]
      rw [if_neg (by decide), if_neg (by rw [hDl]; decide)]
    rw [e] at h
    unfold Pag.SplitDone at h
    simp only [hLl] at h
    exact h
  have hjn : PagM.join L = ((2, D, 1), 0) := by
    have h := PagM.join_split 2 D (by decide) (by rw [hDl]; decide) []
    rw [List.append_nil, ← hL, hLl] at h
    exact h
  have h128 : ∀ p ∈ L, p.length ≤ 1000000 := fun p hp => by
    have h := (notePages_page nT p (by unfold notePages; rw [← hD, ← hL]; exact hp)).2
    omega
  have C3 : Hid (∀ (wx : World) al cl, GivenL wx al 1 cl L → Calls Tryd.prog 11 #[.slice al 1 cl] wx fun e w' => ∃ a c, e = .returned (.tuple #[.int .u8 2, .slice a 13 c, .int .i64 1, .int .i64 0]) ∧ Given w' a 13 c D ∧ Below wx.heap.size wx w') := fun wx al cl hg => by
    have h := Pag.joinP_any al 1 cl L wx hg (by decide) h128
    rw [hjn] at h
    unfold Pag.JoinDone at h
    simp only [hDl] at h
    exact h
  have htk : RecM.take D = (nT, 0) := by rw [hD]; exact RecM.take_laid nT_fits nT_right
  have C4 : Hid (∀ (wx : World) a c, Given wx a 13 c D → Calls Tryd.prog 12 #[.slice a 13 c] wx fun e w' => ∃ (c9 : List Value) (a9 : Option Addr) (k9 : Nat), c9 = Rec.ntC nT (.slice a9 0 k9) ∧ e = .returned (.tuple #[.agg c9.toArray, .int .i64 0]) ∧ Below wx.heap.size wx w') := fun wx a c hg => by
    have h := Rec.lTake_any a 13 c D wx hg (by decide)
    rw [htk] at h
    exact h.mono fun e w' ⟨a9, k9, h1, _, _, h4⟩ => ⟨_, a9, k9, rfl, h1, h4⟩
  clear hcs hD hDl hL hLl hjn h128 htk
  go_enter Tryd.func4, Tryd.ntmps4
  go_wp2_with (refine Own.wpList_built rfl 34 #[(0, .const (.int .u8 2)), (1, .const (.int .u32 5)), (2, .const (.int .u64 9))] rfl cs.toArray ?_ ?_; · (simp only [List.map_toArray, List.map_cons, List.map_nil, List.toList_toArray]; exact BN.out))
  refine C1.out.mono ?_
  clear C1
  rintro e w1 ⟨a1, c1, rfl, hg1, hb1⟩
  have G1 := Lib.hid hg1
  have HB1 := Lib.hid hb1
  clear hg1 hb1
  go_wp2_with (fail)
  refine (C2.out _ _ _ G1.out).mono ?_
  clear C2 G1
  rintro e w2 ⟨al, cl, rfl, hg2, hb2⟩
  have G2 := Lib.hid hg2
  have HB2 := Lib.hid (HB1.out.trans (hb2.mono HB1.out.size))
  clear hg2 hb2 HB1
  go_wp2_with (fail)
  refine (C3.out _ _ _ G2.out).mono ?_
  clear C3 G2
  rintro e w3 ⟨a3, c3, rfl, hg3, hb3⟩
  have G3 := Lib.hid hg3
  have HB3 := Lib.hid (HB2.out.trans (hb3.mono HB2.out.size))
  clear hg3 hb3 HB2
  go_wp2_with (fail)
  refine (C4.out _ _ _ G3.out).mono ?_
  clear C4 G3
  rintro e w4 ⟨c9, a9, k9, hc9, rfl, hb4⟩
  have H4 := Lib.hid ((Own.St.start w).later (HB3.out.trans (hb4.mono HB3.out.size)))
  have CSL : Hid (c9.length = 37) := by show _ = 37; rw [hc9]; exact Rec.ntC_len _ _ rfl
  have CS1 : Hid (∀ v ∈ c9, v.oneCell' = true) := by rw [hc9]; exact Rec.ntC_one rfl
  have K1 : Hid (c9[1]? = some (.int .u32 5)) := by rw [hc9]; exact rfl
  have K2 : Hid (c9[2]? = some (.int .u64 9)) := by rw [hc9]; exact rfl
  clear hc9 hb4 HB3
  go_wp2_with (refine wpList_box2 Lga.boxy_note rfl rfl rfl (.tmp 9) (.tmp 31) rfl rfl c9 (fun _ => rfl) (fun _ => rfl) CSL.out CS1.out H4.out ?_; intro b9 w5 h; have H5 := Lib.hid h; have d1 := (h.cellV 0 rfl 1 K1.out).1; have d2 := (h.cellV 0 rfl 2 K2.out).1; clear h)
  go_ret
  exact ⟨rfl, H5.out.below⟩
end Top
end Go.Proofs.YtllmogicmimjlaaDoor

end
section
namespace Go.KecM

abbrev W := BitVec 64
/-- a word turned left -/
def rot (w : W) (n : Nat) : W := (w <<< n) ||| (w >>> (64 - n))

/-- a state: 25 words -/
abbrev St := List W
def at' (s : St) (x y : Nat) : W := s.getD (x % 5 + 5 * (y % 5)) 0
def mk (f : Nat → Nat → W) : St := (List.range 25).map fun i => f (i % 5) (i / 5)
theorem mk_len (f : Nat → Nat → W) : (mk f).length = 25 := by simp [mk]
theorem mk_get (f : Nat → Nat → W) (i : Nat) (hi : i < 25) : (mk f).getD i 0 = f (i % 5) (i / 5) := by simp [mk, hi]
theorem mk_at (f : Nat → Nat → W) (x y : Nat) : at' (mk f) x y = f (x % 5) (y % 5) := by
  unfold at'
  rw [mk_get _ _ (by omega)]
  congr 1 <;> omega
/-- by how many bits the word at x, y is turned -/
def turns : List Nat := [0, 1, 62, 28, 27, 36, 44, 6, 55, 20, 3, 10, 43, 25, 39, 41, 45, 15, 21, 8, 18, 2, 61, 56, 14]
def turn (x y : Nat) : Nat := turns.getD (x % 5 + 5 * (y % 5)) 0
theorem turn_lt (x y : Nat) : turn x y < 64 := by
  have : ∀ i : Fin 25, turns.getD i.val 0 < 64 := by decide
  exact this ⟨x % 5 + 5 * (y % 5), by omega⟩

/-- the xor of a column -/
def par (s : St) (x : Nat) : W := at' s x 0 ^^^ at' s x 1 ^^^ at' s x 2 ^^^ at' s x 3 ^^^ at' s x 4
def theta (s : St) : St := mk fun x y => at' s x y ^^^ par s (x + 4) ^^^ rot (par s (x + 1)) 1
/-- turned, and moved: the word at y, 2 x + 3 y was at x, y -/
def rhopi (s : St) : St := mk fun x y => rot (at' s (x + 3 * y) x) (turn (x + 3 * y) x)
def chi (s : St) : St := mk fun x y => at' s x y ^^^ (at' s (x + 2) y &&& ~~~ (at' s (x + 1) y))
def iota (m : W) (s : St) : St := s.set 0 (s.getD 0 0 ^^^ m)
def roundM (m : W) (s : St) : St := iota m (chi (rhopi (theta s)))

theorem roundM_len (m : W) (s : St) : (roundM m s).length = 25 := by simp [roundM, iota, chi, mk_len]

/-! ### unlike states stay unlike -/
/-- the constant of a round -/
def lf (r : Nat) : Nat := if 2 * r ≥ 256 then (2 * r) ^^^ 369 else 2 * r
def lfs : Nat → Nat
  | 0 => 1
  | t + 1 => lf (lfs t)
def cbit (t : Nat) : Nat := lfs t % 2
def kmark (round : Nat) : Nat := ((List.range 7).map fun j => cbit ((j + 7 * (round % 255)) % 255) * 2 ^ (2 ^ j - 1)).sum
def markW (round : Nat) : W := BitVec.ofNat 64 (kmark round)

def roundN (round : Nat) (s : St) : St := roundM (markW round) s
def perm : Nat → St → St
  | 0, s => s
  | n + 1, s => roundN n (perm n s)
theorem perm_len (n : Nat) (s : St) (hs : s.length = 25) : (perm n s).length = 25 := by
  cases n with
  | zero => exact hs
  | succ n => exact roundM_len _ _
end Go.KecM

end
section
namespace Go.Proofs.YtllmogicmimjlaaDoor
open Go.RowKit Go.Own
namespace Kec
open Go.KecM

/-- a number of 64 bits -/
def u64V (w : W) : Value := .int .u64 (w.toNat : Int)

theorem lf_lt : ∀ r : Fin 256, lf r.val < 256 := by decide +kernel
theorem lfs_lt (t : Nat) : lfs t < 256 := by
  induction t with
  | zero => decide
  | succ t ih => exact lf_lt ⟨lfs t, ih⟩

theorem wrap_u64' (n : Int) : IntKind.u64.wrap n = n % 18446744073709551616 := by simp [IntKind.wrap, IntKind.bits, IntKind.signed]
theorem turn_eq (w : W) (n : Nat) (hn : n < 64) : bits .or .u64 (IntKind.u64.wrap ((w.toNat : Int) * 2 ^ n)) ((w.toNat : Int) / 2 ^ (64 - n)) = ((rot w n).toNat : Int) := by
  have hw := w.isLt
  have h1 : w.toNat * 2 ^ n % 18446744073709551616 < 18446744073709551616 := Nat.mod_lt _ (by decide)
  have h2 : w.toNat / 2 ^ (64 - n) < 18446744073709551616 := Nat.lt_of_le_of_lt (Nat.div_le_self _ _) hw
  have e := u64_or_nat _ _ h1 h2
  have e1 : ((w.toNat * 2 ^ n % 18446744073709551616 : Nat) : Int) = (w.toNat : Int) * 2 ^ n % 18446744073709551616 := by simp
  have e2 : ((w.toNat / 2 ^ (64 - n) : Nat) : Int) = (w.toNat : Int) / 2 ^ (64 - n) := by simp
  rw [e1, e2] at e
  rw [wrap_u64', e]
  unfold rot
  rw [BitVec.toNat_or, BitVec.toNat_shiftLeft, BitVec.toNat_ushiftRight, Nat.shiftLeft_eq, Nat.shiftRight_eq_div_pow]

/-- the constant of a round, in parts -/
def markTo (r : Nat) : Nat → Nat
  | 0 => 0
  | j + 1 => markTo r j + cbit ((j + 7 * r) % 255) * 2 ^ (2 ^ j - 1)
theorem sum_to (r n : Nat) : ((List.range n).map fun j => cbit ((j + 7 * r) % 255) * 2 ^ (2 ^ j - 1)).sum = markTo r n := by
  induction n with
  | zero => rfl
  | succ n ih => rw [List.range_succ, List.map_append, List.sum_append, ih]; simp [markTo]
theorem kmark_to (round : Nat) : kmark round = markTo (round % 255) 7 := sum_to _ 7
theorem cbit_le (t : Nat) : cbit t ≤ 1 := by unfold cbit; omega
theorem markTo_lt (r j : Nat) (hj : j ≤ 7) : markTo r j < 2 ^ (2 ^ j - 1) := by
  induction j with
  | zero => simp [markTo]
  | succ j ih =>
    have h1 := ih (by omega)
    have h2 := cbit_le ((j + 7 * r) % 255)
    have h3 : cbit ((j + 7 * r) % 255) * 2 ^ (2 ^ j - 1) ≤ 2 ^ (2 ^ j - 1) := by
      have := Nat.mul_le_mul_right (2 ^ (2 ^ j - 1)) h2
      simpa using this
    have h4 : 2 ^ (2 ^ j - 1) + 2 ^ (2 ^ j - 1) ≤ 2 ^ (2 ^ (j + 1) - 1) := by
      have hp : 0 < 2 ^ j := Nat.pow_pos (by decide)
      rw [← Nat.two_mul, ← Nat.pow_succ']
      exact Nat.pow_le_pow_right (by decide) (by rw [Nat.pow_succ]; omega)
    simp only [markTo]
    omega
theorem markTo_7 (r : Nat) : markTo r 7 < 18446744073709551616 := by
  have h := markTo_lt r 6 (by omega)
  have h2 := cbit_le ((6 + 7 * r) % 255)
  have e : markTo r 7 = markTo r 6 + cbit ((6 + 7 * r) % 255) * 2 ^ (2 ^ 6 - 1) := rfl
  rw [e]
  have h3 : cbit ((6 + 7 * r) % 255) * 2 ^ (2 ^ 6 - 1) ≤ 1 * 2 ^ (2 ^ 6 - 1) := Nat.mul_le_mul_right _ h2
  have h4 : (2 : Nat) ^ (2 ^ 6 - 1) = 9223372036854775808 := by decide
  rw [h4] at h h3 ⊢
  omega
theorem markTo_64 (r j : Nat) (hj : j ≤ 7) : markTo r j < 18446744073709551616 := by
  by_cases h : j = 7
  · rw [h]; exact markTo_7 r
  · have h1 := markTo_lt r j hj
    have h2 : 2 ^ (2 ^ j - 1) ≤ 2 ^ (2 ^ 6 - 1) := Nat.pow_le_pow_right (by decide) (by
      have := Nat.pow_le_pow_right (show 2 > 0 by decide) (show j ≤ 6 by omega)
      omega)
    have h3 : (2 : Nat) ^ (2 ^ 6 - 1) = 9223372036854775808 := by decide
    omega
def markOf (round : Int) : W := if round < 0 then 0 else markW round.toNat


end Kec
end Go.Proofs.YtllmogicmimjlaaDoor

end
section
namespace Go.KecM

/-- an array of N words, of which those are laid whose turn was before n -/
def fill (N : Nat) (ord : Nat → Nat) (f : Nat → W) (n : Nat) : List W := (List.range N).map fun i => if ord i < n then f i else 0
theorem fill_len (N : Nat) (ord : Nat → Nat) (f : Nat → W) (n : Nat) : (fill N ord f n).length = N := by simp [fill]
theorem fill_zero (N : Nat) (ord : Nat → Nat) (f : Nat → W) : fill N ord f 0 = List.replicate N 0 := by
  apply List.ext_getElem
  · simp [fill]
  · intro i h1 h2; simp [fill]
theorem fill_all (N : Nat) (ord : Nat → Nat) (f : Nat → W) (M : Nat) (h : ∀ i, i < N → ord i < M) : fill N ord f M = (List.range N).map f := by
  apply List.ext_getElem
  · simp [fill]
  · intro i h1 h2
    have hi : i < N := by simpa [fill] using h1
    simp [fill, h i hi]
theorem fill_set (N : Nat) (ord : Nat → Nat) (f : Nat → W) (n p : Nat) (h1 : ord p = n) (h2 : ∀ i, i < N → ord i = n → i = p) : (fill N ord f n).set p (f p) = fill N ord f (n + 1) := by
  apply List.ext_getElem
  · simp [fill]
  · intro i g1 g2
    have hi : i < N := by simpa [fill] using g2
    by_cases hip : i = p
    · subst hip
      simp [fill, h1]
    · rw [List.getElem_set_ne (Ne.symm hip)]
      have : ord i ≠ n := fun h => hip (h2 i hi h)
      simp only [fill, List.getElem_map, List.getElem_range]
      by_cases h : ord i < n
      · rw [if_pos h, if_pos (by omega)]
      · rw [if_neg h, if_neg (by omega)]

/-- the second sweep: turned and moved -/
def ord2 (i : Nat) : Nat := 5 * ((i % 5 + 3 * (i / 5)) % 5) + i % 5
theorem place2 : ∀ x y : Fin 5, ord2 (y.val + 5 * ((2 * x.val + 3 * y.val) % 5)) = 5 * x.val + y.val ∧ ∀ i : Fin 25, ord2 i.val = 5 * x.val + y.val → i.val = y.val + 5 * ((2 * x.val + 3 * y.val) % 5) := by decide +kernel
theorem all2 : ∀ i : Fin 25, ord2 i.val < 25 := by decide
/-- the third sweep -/
def ord3 (i : Nat) : Nat := 5 * (i % 5) + i / 5
def fin3 (s : St) (i : Nat) : W := at' s (i % 5) (i / 5) ^^^ (at' s (i % 5 + 2) (i / 5) &&& ~~~ (at' s (i % 5 + 1) (i / 5)))
theorem theta_at (s : St) (x y : Nat) (hx : x < 5) (hy : y < 5) : at' (theta s) x y = at' s x y ^^^ par s (x + 4) ^^^ rot (par s (x + 1)) 1 := by
  unfold theta; rw [mk_at, Nat.mod_eq_of_lt hx, Nat.mod_eq_of_lt hy]
theorem par_mod (s : St) (x : Nat) : par s (x % 5) = par s x := by unfold par at'; rw [Nat.mod_mod]
theorem at_get (s : St) (x y : Nat) (hx : x < 5) (hy : y < 5) : s.getD (x + 5 * y) 0 = at' s x y := by unfold at'; rw [Nat.mod_eq_of_lt hx, Nat.mod_eq_of_lt hy]
end Go.KecM

end
section
namespace Go.Proofs.YtllmogicmimjlaaDoor
open Go.RowKit Go.Own
namespace Kec
open Go.KecM

/-- words in a block of one's own -/
def A64 (b : Nat) (t : TypeId) (ws : List W) : Asn := AVals b t (ws.map u64V)
theorem A64.cell {B : Nat} {w0 w : World} {Ps : List Asn} {b : Nat} {t : TypeId} {ws : List W} (h : Own.St B w0 w Ps) (i : Nat) (hi : Ps[i]? = some (A64 b t ws)) (j : Nat) (hj : j < ws.length) {v : W} (hv : ws.getD j 0 = v) : w.cell? ⟨b, j, none⟩ = some (.int .u64 (v.toNat : Int)) ∧ w.frozen? ⟨b, j, none⟩ = false :=
  h.cellV i hi j (by simp [u64V, hj, ← hv])
theorem A64.store {B : Nat} {w0 w : World} {Ps : List Asn} {b : Nat} {t : TypeId} {ws : List W} (h : Own.St B w0 w Ps) (i : Nat) (hi : Ps[i]? = some (A64 b t ws)) (j : Nat) (v : W) : Own.St B w0 (w.setCell ⟨b, j, none⟩ (.int .u64 (v.toNat : Int))) (Ps.set i (A64 b t (ws.set j v))) := by
  have := h.storeV i hi j (u64V v)
  unfold A64
  rw [List.map_set]
  exact this
theorem A64.box {B : Nat} {w0 w : World} {Ps : List Asn} (h : Own.St B w0 w Ps) (t : TypeId) (ws : List W) : Own.St B w0 (w.alloc (.cells (ws.map u64V).toArray t)) (A64 w.heap.size t ws :: Ps) := h.boxV t _
/-- how many cells the state has -/
theorem info_lanes (ws : List W) (h : ws.length = 25) : (Tryd.prog.info? 76).map (·.size) = some (ws.map u64V).toArray.size := by
  have e : (ws.map u64V).toArray.size = 25 := by simp [h]
  have h0 : (Tryd.prog.info? 76).map (fun i => i.size) = some 25 := by kernel_rfl
  rw [e]
  exact h0
theorem one_cells (ws : List W) : (ws.map u64V).toArray.all (·.oneCell') = true :=
  all_oneCell_toArray (fun v hv => by obtain ⟨x, _, rfl⟩ := List.mem_map.1 hv; rfl)
theorem A64.row {B : Nat} {w0 w : World} {Ps : List Asn} {b : Nat} {t : TypeId} {ws : List W} (h : Own.St B w0 w Ps) (i : Nat) (hi : Ps[i]? = some (A64 b t ws)) : w.heap[b]? = some (.cells (ws.map u64V).toArray t (0, 0)) := h.rowV i hi
theorem A64.there {B : Nat} {w0 w : World} {Ps : List Asn} {b : Nat} {t : TypeId} {ws : List W} (h : Own.St B w0 w Ps) (i : Nat) (hi : Ps[i]? = some (A64 b t ws)) (rs : List W) (hl : rs.length = ws.length) : w.there b 0 (rs.map u64V).toArray.size :=
  h.thereV i hi (by simp [hl])
theorem A64.setAll {B : Nat} {w0 w : World} {Ps : List Asn} {b : Nat} {t : TypeId} {ws : List W} (h : Own.St B w0 w Ps) (i : Nat) (hi : Ps[i]? = some (A64 b t ws)) (rs : List W) (hl : rs.length = ws.length) : Own.St B w0 (w.setCells b 0 (rs.map u64V).toArray.toList) (Ps.set i (A64 b t rs)) := by
  have := Own.St.setAll i (rs.map u64V) 0 w Ps (ws.map u64V) h hi (by simp [hl])
  simpa [A64] using this
/-- a cell, in every later world -/
theorem cell_later {W w : World} {a : Addr} {v : Value} (h : W.cell? a = some v) (hb : Below W.heap.size W w) : w.cell? a = some v := by
  rw [hb.cell (World.block_lt_of_cell? W a h)]; exact h

theorem idx5 {o : Oper} {x y : Tmp} (ho : o.op = .indexAddr 119 (.tmp x) (.tmp y)) (k : Nat) (hk : k < 5) (b : Nat) : ∀ (ρ : Operand → Value) w, ρ (.tmp x) = .pointer (some ⟨b, 0, none⟩) → ρ (.tmp y) = .int .i64 k → (execOp ρ o).run Tryd.prog w = .ok (.value (.pointer (some ⟨b, k, none⟩))) w := by
  intro ρ w h0 h1
  have hk' : (k : Int) < 5 := by omega
  simp [execOp, ho, h0, h1, go_sem, hk']
theorem idx25 {o : Oper} {x y : Tmp} (ho : o.op = .indexAddr 76 (.tmp x) (.tmp y)) (k : Nat) (hk : k < 25) (b : Nat) : ∀ (ρ : Operand → Value) w, ρ (.tmp x) = .pointer (some ⟨b, 0, none⟩) → ρ (.tmp y) = .int .i64 k → (execOp ρ o).run Tryd.prog w = .ok (.value (.pointer (some ⟨b, k, none⟩))) w := by
  intro ρ w h0 h1
  have hk' : (k : Int) < 25 := by omega
  simp [execOp, ho, h0, h1, go_sem, hk']
theorem load64 {o : Oper} {x : Tmp} (ho : o.op = .load 24 (.tmp x)) {a : Addr} {v : W} (ρ : Operand → Value) {w : World} (hc : w.cell? a = some (.int .u64 (v.toNat : Int))) (h0 : ρ (.tmp x) = .pointer (some a)) : (execOp ρ o).run Tryd.prog w = .ok (.value (.int .u64 (v.toNat : Int))) w := by
  simp [execOp, ho, h0, go_sem, hc]

theorem add_lit (c : Nat) {o : Oper} {t : Tmp} (ho : o.op = .binOp .add 3 (.tmp t) (.const (.int .i64 (c : Int))) 3) (k : Nat) (hk : k ≤ 1000) (hcl : c ≤ 1000) : ∀ (ρ : Operand → Value) w, ρ (.tmp t) = .int .i64 k → (∀ c, ρ (.const c) = c) → (execOp ρ o).run Tryd.prog w = .ok (.value (.int .i64 ((k + c : Nat) : Int))) w := by
  intro ρ w h0 hc
  have e : IntKind.i64.wrap ((k : Int) + (c : Int)) = (k : Int) + (c : Int) := IntWalk.i64_in _ (by omega)
  simp [execOp, ho, h0, hc, go_sem, e]
end Kec
end Go.Proofs.YtllmogicmimjlaaDoor

end
section
namespace Go.KecM

/-- laid where the turn was before n; as it was elsewhere -/
def mixd (N : Nat) (ord : Nat → Nat) (f g : Nat → W) (n : Nat) : List W := (List.range N).map fun i => if ord i < n then f i else g i
theorem mixd_len (N : Nat) (ord : Nat → Nat) (f g : Nat → W) (n : Nat) : (mixd N ord f g n).length = N := by simp [mixd]
theorem mixd_get (N : Nat) (ord : Nat → Nat) (f g : Nat → W) (n i : Nat) (hi : i < N) : (mixd N ord f g n).getD i 0 = if ord i < n then f i else g i := by simp [mixd, hi]
theorem mixd_zero (N : Nat) (ord : Nat → Nat) (f : Nat → W) (s : List W) (hs : s.length = N) : mixd N ord f (fun i => s.getD i 0) 0 = s := by
  apply List.ext_getElem
  · simp [mixd, hs]
  · intro i h1 h2; simp [mixd, h2]
theorem mixd_all (N : Nat) (ord : Nat → Nat) (f g : Nat → W) (M : Nat) (h : ∀ i, i < N → ord i < M) : mixd N ord f g M = (List.range N).map f := by
  apply List.ext_getElem
  · simp [mixd]
  · intro i h1 h2
    have hi : i < N := by simpa [mixd] using h1
    simp [mixd, h i hi]
theorem mixd_set (N : Nat) (ord : Nat → Nat) (f g : Nat → W) (n p : Nat) (h1 : ord p = n) (h2 : ∀ i, i < N → ord i = n → i = p) : (mixd N ord f g n).set p (f p) = mixd N ord f g (n + 1) := by
  apply List.ext_getElem
  · simp [mixd]
  · intro i g1 g2
    have hi : i < N := by simpa [mixd] using g2
    by_cases hip : i = p
    · subst hip
      simp [mixd, h1]
    · rw [List.getElem_set_ne (Ne.symm hip)]
      have : ord i ≠ n := fun h => hip (h2 i hi h)
      simp only [mixd, List.getElem_map, List.getElem_range]
      by_cases h : ord i < n
      · rw [if_pos h, if_pos (by omega)]
      · rw [if_neg h, if_neg (by omega)]

/-- the parities, word by word -/
def pacc (s : St) : Nat → List W
  | 0 => List.replicate 5 0
  | i + 1 => (pacc s i).set (i % 5) ((pacc s i).getD (i % 5) 0 ^^^ s.getD i 0)
theorem pacc_len (s : St) (n : Nat) : (pacc s n).length = 5 := by
  induction n with
  | zero => rfl
  | succ n ih => simp [pacc, ih]
theorem pacc_all (s : St) : pacc s 25 = (List.range 5).map (par s) := by
  simp [pacc, par, at', List.range_succ, List.replicate]
theorem pacc_get (s : St) (x : Nat) (hx : x < 5) : (pacc s 25).getD x 0 = par s x := by rw [pacc_all]; simp [hx]

/-- the first step, in place -/
def thst (s : St) (n : Nat) : List W := mixd 25 ord3 (fun i => at' (theta s) (i % 5) (i / 5)) (fun i => s.getD i 0) n
theorem thst_zero (s : St) (hs : s.length = 25) : thst s 0 = s := mixd_zero _ _ _ _ hs
theorem thst_len (s : St) (n : Nat) : (thst s n).length = 25 := mixd_len _ _ _ _ _
theorem thst_get (s : St) (x y : Nat) (hx : x < 5) (hy : y < 5) : (thst s (5 * x + y)).getD (x + 5 * y) 0 = at' s x y := by
  unfold thst
  rw [mixd_get _ _ _ _ _ _ (by omega), if_neg (by unfold ord3; omega), at_get s x y hx hy]
theorem thst_set (s : St) (x y : Nat) (hx : x < 5) (hy : y < 5) : (thst s (5 * x + y)).set (x + 5 * y) (at' s x y ^^^ (par s (x + 4) ^^^ rot (par s (x + 1)) 1)) = thst s (5 * x + (y + 1)) := by
  have hf : (fun i => at' (theta s) (i % 5) (i / 5)) (x + 5 * y) = at' s x y ^^^ (par s (x + 4) ^^^ rot (par s (x + 1)) 1) := by
    show at' (theta s) ((x + 5 * y) % 5) ((x + 5 * y) / 5) = _
    rw [show (x + 5 * y) % 5 = x by omega, show (x + 5 * y) / 5 = y by omega, theta_at s x y hx hy, BitVec.xor_assoc]
  rw [← hf]
  exact mixd_set 25 ord3 _ _ _ _ (by unfold ord3; omega) (fun i hi he => by unfold ord3 at he; omega)
theorem thst_all (s : St) : thst s 25 = theta s := by
  unfold thst
  rw [mixd_all 25 ord3 _ _ 25 (fun i hi => by unfold ord3; omega)]
  apply List.ext_getElem
  · simp [theta, mk]
  · intro i h1 h2
    have hi : i < 25 := by simpa using h1
    have h := mk_get (fun x y => at' s x y ^^^ par s (x + 4) ^^^ rot (par s (x + 1)) 1) i hi
    simp only [List.getElem_map, List.getElem_range]
    rw [theta_at s _ _ (Nat.mod_lt _ (by decide)) (by omega)]
    simp [theta, mk]

/-- the second step, in place -/
def rho (s : St) : St := (List.range 25).map fun i => rot (s.getD i 0) (turns.getD i 0)
def rhst (s : St) (n : Nat) : List W := mixd 25 id (fun i => rot (s.getD i 0) (turns.getD i 0)) (fun i => s.getD i 0) n
theorem rhst_zero (s : St) (hs : s.length = 25) : rhst s 0 = s := mixd_zero _ _ _ _ hs
theorem rhst_len (s : St) (n : Nat) : (rhst s n).length = 25 := mixd_len _ _ _ _ _
theorem rhst_get (s : St) (i : Nat) (hi : i < 25) : (rhst s i).getD i 0 = s.getD i 0 := by
  unfold rhst
  rw [mixd_get _ _ _ _ _ _ hi, if_neg (by simp)]
theorem rhst_set (s : St) (i : Nat) : (rhst s i).set i (rot (s.getD i 0) (turns.getD i 0)) = rhst s (i + 1) :=
  mixd_set 25 id (fun i => rot (s.getD i 0) (turns.getD i 0)) _ _ _ rfl (fun j hj he => he)
theorem rhst_all (s : St) : rhst s 25 = rho s := mixd_all 25 id _ _ 25 (fun i hi => hi)
theorem rho_len (s : St) : (rho s).length = 25 := by simp [rho]
theorem rho_at (s : St) (x y : Nat) : at' (rho s) x y = rot (at' s x y) (turn x y) := by
  have h : x % 5 + 5 * (y % 5) < 25 := by omega
  unfold at' turn rho
  simp [h]

/-- the third step -/
def pim (s : St) : St := mk fun x y => at' s (x + 3 * y) x
def pist (s : St) (n : Nat) : List W := fill 25 ord2 (fun i => at' s (i % 5 + 3 * (i / 5)) (i % 5)) n
theorem pist_zero (s : St) : pist s 0 = List.replicate 25 0 := fill_zero _ _ _
theorem pist_len (s : St) (n : Nat) : (pist s n).length = 25 := fill_len _ _ _ _
theorem pist_set (s : St) (x y : Nat) (hx : x < 5) (hy : y < 5) : (pist s (5 * x + y)).set (y + 5 * ((2 * x + 3 * y) % 5)) (at' s x y) = pist s (5 * x + (y + 1)) := by
  have h := place2 ⟨x, hx⟩ ⟨y, hy⟩
  have hf : (fun i => at' s (i % 5 + 3 * (i / 5)) (i % 5)) (y + 5 * ((2 * x + 3 * y) % 5)) = at' s x y := by
    show at' s ((y + 5 * ((2 * x + 3 * y) % 5)) % 5 + 3 * ((y + 5 * ((2 * x + 3 * y) % 5)) / 5)) ((y + 5 * ((2 * x + 3 * y) % 5)) % 5) = at' s x y
    rw [show (y + 5 * ((2 * x + 3 * y) % 5)) % 5 = y by omega, show (y + 5 * ((2 * x + 3 * y) % 5)) / 5 = (2 * x + 3 * y) % 5 by omega]
    unfold at'
    rw [show (y + 3 * ((2 * x + 3 * y) % 5)) % 5 = x % 5 by omega]
  rw [← hf]
  exact fill_set 25 ord2 _ _ _ h.1 (fun i hi he => h.2 ⟨i, hi⟩ he)
theorem pist_all (s : St) : pist s 25 = pim s := by
  unfold pist
  rw [fill_all 25 ord2 _ 25 (fun i hi => all2 ⟨i, hi⟩)]
  rfl
theorem pim_rho (s : St) : pim (rho s) = rhopi s := by
  unfold pim rhopi
  congr 1
  funext x y
  rw [rho_at]

/-- the fourth step -/
def chst (s : St) (n : Nat) : List W := mixd 25 ord3 (fin3 s) (fun i => s.getD i 0) n
theorem chst_zero (s : St) (hs : s.length = 25) : chst s 0 = s := mixd_zero _ _ _ _ hs
theorem chst_len (s : St) (n : Nat) : (chst s n).length = 25 := mixd_len _ _ _ _ _
theorem chst_get (s : St) (x y : Nat) (hx : x < 5) (hy : y < 5) : (chst s (5 * x + y)).getD (x + 5 * y) 0 = at' s x y := by
  unfold chst
  rw [mixd_get _ _ _ _ _ _ (by omega), if_neg (by unfold ord3; omega), at_get s x y hx hy]
theorem chst_set (s : St) (x y : Nat) (hx : x < 5) (hy : y < 5) : (chst s (5 * x + y)).set (x + 5 * y) (at' s x y ^^^ (at' s (x + 2) y &&& ~~~ (at' s (x + 1) y))) = chst s (5 * x + (y + 1)) := by
  have hf : fin3 s (x + 5 * y) = at' s x y ^^^ (at' s (x + 2) y &&& ~~~ (at' s (x + 1) y)) := by
    unfold fin3
    rw [show (x + 5 * y) % 5 = x by omega, show (x + 5 * y) / 5 = y by omega]
  rw [← hf]
  exact mixd_set 25 ord3 _ _ _ _ (by unfold ord3; omega) (fun i hi he => by unfold ord3 at he; omega)
theorem chst_all (s : St) : chst s 25 = chi s := by
  unfold chst
  rw [mixd_all 25 ord3 _ _ 25 (fun i hi => by unfold ord3; omega)]
  rfl
end Go.KecM

end
