/- The landed disk: how it lies in memory; the methods that only look, Cut; a nil disk; Barrier, Crash. -/
import Derived.Test.YtkddeccgoamopaaBkaB
namespace Go.Proofs.Ytkddeccgoamopaa
open Go.RowKit Go.Own
namespace Bak
open Go.BakM Byt

structure Hidden where
  aN : Option Addr
  cN : Nat
  aS : Option Addr
  cS : Nat
  vP : Value
  armed : Bool
  lf : Int
structure HRel (x : Hidden) (s : DS) : Prop where
  i64 : i64A x.lf
  on : s.off = false → (x.armed = true → x.lf = s.left) ∧ (x.armed = false → s.left = -1)
  pos : x.armed = true → 0 ≤ x.lf
def dkParts (p : Nat) (x : Hidden) (s : DS) : List Asn := [AVals p 62 (dkCells (.slice x.aN s.safe.length x.cN) (.slice x.aS s.safe.length x.cS) x.vP s.n s.off x.armed x.lf), bRow (.slice x.aN s.safe.length x.cN) s.safe.length (nowG s.safe s.L), bRow (.slice x.aS s.safe.length x.cS) s.safe.length s.safe, ARow 68 257 x.vP s.L.length (s.L.flatMap wrCells)]
def ADk (p : Nat) (s : DS) : Asn := AEx (α := { x : Hidden // HRel x s }) fun x => AJoin (dkParts p x.1 s)
section
variable {B : Nat} {w0 w : World} {Ps : List Asn} {p : Nat} {s : DS}
theorem dkOpen (H : Own.St B w0 w (ADk p s :: Ps)) : ∃ x, HRel x s ∧ Own.St B w0 w (dkParts p x s ++ Ps) := by
  obtain ⟨⟨x, hx⟩, h⟩ := H.openE
  exact ⟨x, hx, h.openJ⟩
theorem dkClose {x : Hidden} (hx : HRel x s) (H : Own.St B w0 w (dkParts p x s ++ Ps)) : Own.St B w0 w (ADk p s :: Ps) :=
  St.closeE (α := { x : Hidden // HRel x s }) (P := fun x => AJoin (dkParts p x.1 s)) ⟨x, hx⟩ H.closeJ

theorem blocks_any {N : Nat} (H : Own.St B w0 w (ADk p s :: Ps)) (ok : Ok s N) : Calls Try.prog 18 #[qtr p] w fun e w' => e = .returned (errW s.safe.length) ∧ Below w.heap.size w w' := by
  obtain ⟨x, _, h⟩ := dkOpen H
  have c1 := (h.cellV 0 rfl 0 rfl).1
  have := ok.len
  go_enter Try.func18, Try.ntmps18
  go_wp2
  go_ret
  exact ⟨rfl, Below.refl _ _⟩
theorem doneK_any (H : Own.St B w0 w (ADk p s :: Ps)) : Calls Try.prog 20 #[qtr p] w fun e w' => e = .returned (errW s.n) ∧ Below w.heap.size w w' := by
  obtain ⟨x, _, h⟩ := dkOpen H
  have c1 := (h.cellV 0 rfl 3 rfl).1
  go_enter Try.func20, Try.ntmps20
  go_wp2
  go_ret
  exact ⟨rfl, Below.refl _ _⟩
theorem dead_any (H : Own.St B w0 w (ADk p s :: Ps)) : Calls Try.prog 19 #[qtr p] w fun e w' => e = .returned (.bool s.off) ∧ Below w.heap.size w w' := by
  obtain ⟨x, _, h⟩ := dkOpen H
  have c1 := (h.cellV 0 rfl 4 rfl).1
  go_enter Try.func19, Try.ntmps19
  go_wp2
  go_ret
  exact ⟨rfl, Below.refl _ _⟩
theorem cut_any (H : Own.St B w0 w (ADk p s :: Ps)) (after : Int) (ha : i64A after) : Calls Try.prog 23 #[qtr p, .int .i64 after] w fun e w' => e = .returned (.tuple #[]) ∧ Own.St B w0 w' (ADk p (cut s after) :: Ps) := by
  obtain ⟨x, hx, h⟩ := dkOpen H
  have c6 := (h.cellV 0 rfl 4 rfl)
  have c7 := (h.cellV 0 rfl 5 rfl)
  have h1 := h.storeV 0 rfl 5 (.bool (decide (0 ≤ after)))
  have c8 := (h1.cellV 0 rfl 6 rfl)
  have h2 := h1.storeV 0 rfl 6 (.int .i64 after)
  have H0 := Lib.hid H
  have H2 := Lib.hid h2
  clear H h h1 h2
  obtain ⟨off, hoff⟩ : ∃ o, o = s.off := ⟨_, rfl⟩
  rw [← hoff] at c6
  have HO := Lib.hid hoff
  clear hoff
  go_enter Try.func23, Try.ntmps23
  cases off
  · by_cases h0 : 0 ≤ after
    · rw [decide_eq_true h0] at c8 H2
      go_wp2
      go_end0
      refine ⟨rfl, ?_⟩
      have e : cut s after = { s with left := max after (-1) } := by unfold cut; rw [← HO.out]; rfl
      rw [e]
      exact dkClose (x := { x with armed := true, lf := after }) ⟨ha, fun _ => ⟨fun _ => by show after = max after (-1); omega, fun h => (by cases h)⟩, fun _ => h0⟩ H2.out
    · rw [decide_eq_false h0] at c8 H2
      go_wp2
      go_end0
      refine ⟨rfl, ?_⟩
      have e : cut s after = { s with left := max after (-1) } := by unfold cut; rw [← HO.out]; rfl
      rw [e]
      exact dkClose (x := { x with armed := false, lf := after }) ⟨ha, fun _ => ⟨fun h => (by cases h), fun _ => by show max after (-1) = -1; omega⟩, fun h => (by cases h)⟩ H2.out
  · clear c7 c8
    go_wp2
    refine bodyPost_ret (results_none rfl _ _ _) rfl ?_
    refine ⟨rfl, ?_⟩
    have e : cut s after = s := by unfold cut; rw [← HO.out]; rfl
    rw [e]
    exact H0.out
end
theorem nilWrite_any (pos : Int) (v : Value) (w : World) : Calls Try.prog 14 #[.pointer none, .int .i64 pos, v] w fun e w' => e = .returned (errW 2) ∧ Below w.heap.size w w' := by
  go_enter Try.func14, Try.ntmps14
  go_wp2
  go_ret
  exact ⟨rfl, Below.refl _ _⟩
theorem nilBarrier_any (w : World) : Calls Try.prog 32 #[.pointer none] w fun e w' => e = .returned (errW 2) ∧ Below w.heap.size w w' := by
  go_enter Try.func32, Try.ntmps32
  go_wp2
  go_ret
  exact ⟨rfl, Below.refl _ _⟩
theorem nilRead_any (pos : Int) (w : World) : Calls Try.prog 21 #[.pointer none, .int .i64 pos] w fun e w' => ∃ ao cap, e = .returned (.tuple #[.slice ao 0 cap, errW 2]) ∧ Below w.heap.size w w' := by
  go_enter Try.func21, Try.ntmps21
  go_wp2
  go_ret2
  exact ⟨none, 0, rfl, Below.refl _ _⟩
theorem nilCut_any (after : Int) (w : World) : Calls Try.prog 23 #[.pointer none, .int .i64 after] w fun e w' => e = .returned (.tuple #[]) ∧ Below w.heap.size w w' := by
  go_enter Try.func23, Try.ntmps23
  go_wp2
  refine bodyPost_ret (results_none rfl _ _ _) rfl ?_
  exact ⟨rfl, Below.refl _ _⟩
theorem nilCopy_any (w : World) : Calls Try.prog 12 #[.pointer none] w fun e w' => e = .returned (.pointer none) ∧ Below w.heap.size w w' := by
  go_enter Try.func12, Try.ntmps12
  go_wp2
  go_ret
  exact ⟨rfl, Below.refl _ _⟩
theorem nilBlocks_any (w : World) : Calls Try.prog 18 #[.pointer none] w fun e w' => e = .returned (errW 0) ∧ Below w.heap.size w w' := by
  go_enter Try.func18, Try.ntmps18
  go_wp2
  go_ret
  exact ⟨rfl, Below.refl _ _⟩
theorem nilDead_any (w : World) : Calls Try.prog 19 #[.pointer none] w fun e w' => e = .returned (.bool false) ∧ Below w.heap.size w w' := by
  go_enter Try.func19, Try.ntmps19
  go_wp2
  go_ret
  exact ⟨rfl, Below.refl _ _⟩
theorem nilDone_any (w : World) : Calls Try.prog 20 #[.pointer none] w fun e w' => e = .returned (errW 0) ∧ Below w.heap.size w w' := by
  go_enter Try.func20, Try.ntmps20
  go_wp2
  go_ret
  exact ⟨rfl, Below.refl _ _⟩
theorem nilCrash_any (v : Value) (w : World) : Calls Try.prog 13 #[.pointer none, v] w fun e w' => e = .returned (.tuple #[]) ∧ Below w.heap.size w w' := by
  go_enter Try.func13, Try.ntmps13
  go_wp2
  all_goals (try go_wp2)
  all_goals
    refine bodyPost_ret (results_none rfl _ _ _) rfl ?_
    exact ⟨rfl, (Below.refl w.heap.size w).alloc (Nat.le_refl _) _⟩

theorem trip_off {x : Hidden} {s : DS} (hx : HRel x s) : (s.off || (x.armed && decide (x.lf = 0))) = (trip s).off := by
  unfold trip
  cases ho : s.off with
  | true => split <;> simp_all
  | false =>
    obtain ⟨h1, h2⟩ := hx.on ho
    cases ha : x.armed with
    | true =>
      have := h1 ha
      by_cases h0 : s.left = 0
      · rw [if_pos h0]; simp [this, h0]
      · rw [if_neg h0]; simp [this, h0, ho]
    | false =>
      have := h2 ha
      rw [if_neg (by omega)]; simp [ho]
section
variable {B : Nat} {w0 w : World} {Ps : List Asn} {p : Nat} {s : DS} {N : Nat}
theorem begin_dk {x : Hidden} (H : Own.St B w0 w (dkParts p x s ++ Ps)) (hx : HRel x s) (ok : Ok s N) (hN : N ≤ 10000) :
    Calls Try.prog 30 #[qtr p] w fun e w' => if (trip s).off = true then e = .returned (errW 6) ∧ ∃ x', HRel x' (trip s) ∧ Own.St B w0 w' (dkParts p x' (trip s) ++ Ps)
      else e = .returned (errW 0) ∧ ∃ x', HRel x' (okd (trip s)) ∧ Own.St B w0 w' (dkParts p x' (okd (trip s)) ++ Ps) := by
  obtain ⟨e1, e2, e3⟩ := trip_same s
  have hn := ok.n
  refine (begin_st (n := s.n) H (by omega) hx.i64 hx.pos).mono ?_
  intro e w' h
  rw [trip_off hx] at h
  by_cases ho : (trip s).off = true
  · rw [if_pos ho] at h ⊢
    refine ⟨h.1, x, ⟨hx.i64, fun h0 => (by rw [ho] at h0; cases h0), hx.pos⟩, ?_⟩
    have h2 := h.2
    unfold dkParts
    rw [e1, e2, e3, ho]
    exact h2
  · rw [if_neg ho] at h ⊢
    have hoff : (trip s).off = false := by simpa using ho
    have hto := trip_off hx
    rw [hoff] at hto
    have hso : s.off = false := by
      cases h : s.off with
      | false => rfl
      | true => rw [h] at hto; simp at hto
    have hl0 : ¬ s.left = 0 := fun h0 => by unfold trip at hoff; rw [if_pos h0] at hoff; cases hoff
    have htr : trip s = s := by unfold trip; rw [if_neg hl0]
    obtain ⟨r1, r2⟩ := hx.on hso
    have hlb := ok.left
    have hxi := hx.i64
    refine ⟨h.1, { x with lf := if x.armed = true then x.lf - 1 else x.lf }, ⟨?_, fun _ => ⟨fun ha => ?_, fun ha => ?_⟩, fun ha => ?_⟩, ?_⟩
    · show i64A (if x.armed = true then x.lf - 1 else x.lf)
      split
      · rename_i ha
        have := hx.pos ha
        obtain ⟨q1, q2⟩ := hxi
        exact ⟨by omega, by omega⟩
      · exact hxi
    · have ha' : x.armed = true := ha
      have hpos := hx.pos ha'
      have := r1 ha'
      show (if x.armed = true then x.lf - 1 else x.lf) = (if 0 < (trip s).left then (trip s).left - 1 else (trip s).left)
      rw [htr, if_pos ha', if_pos (by omega), this]
    · have ha' : x.armed = false := ha
      have := r2 ha'
      show (if 0 < (trip s).left then (trip s).left - 1 else (trip s).left) = -1
      rw [htr, if_neg (by omega), this]
    · have ha' : x.armed = true := ha
      have := r1 ha'
      have := hx.pos ha'
      show 0 ≤ (if x.armed = true then x.lf - 1 else x.lf)
      rw [if_pos ha']
      omega
    · have h2 := h.2
      rw [htr]
      unfold dkParts okd
      simp only
      rw [hso]
      exact h2
theorem whole_any (i : Int) (w : World) : Calls Try.prog 38 #[.int .i64 i] w fun e w' => e = .returned (.bool true) ∧ Below w.heap.size w w' := by
  go_enter Try.func38, Try.ntmps38
  go_wp2
  go_ret
  exact ⟨rfl, Below.refl _ _⟩
theorem perm_s {α : Type _} (a b c d : α) (r : List α) : (a :: b :: c :: d :: r).Perm (a :: c :: d :: b :: r) := ((List.Perm.swap c b _).trans ((List.Perm.swap d b r).cons c)).cons a
theorem perm_s' {α : Type _} (a b c d : α) (r : List α) : (a :: b :: c :: d :: r).Perm (a :: d :: b :: c :: r) := (perm_s a d b c r).symm
/-- what settle makes of a disk -/
theorem settle_dk {x : Hidden} (H : Own.St B w0 w (dkParts p x s ++ Ps)) (hsh : Shape s.safe s.safe.length) (hsg : s.safe.length ≤ 4096) (hacts : ∀ a ∈ s.L, PutOk s.safe.length a) (hL : s.L.length ≤ 10000)
    (f : FuncId) (caps : Array Value) (φ : Nat → Bool) (hent : ∀ (args : Array Value) w, (callFunc f args).run Try.prog w = .ok (.enter f args) w)
    (hf : ∀ (i : Nat) (wx : World) (Xs : List Asn), i < s.L.length → Own.St B w0 wx (Xs ++ (bRow (.slice x.aN s.safe.length x.cN) s.safe.length (nowG s.safe s.L) :: Ps)) → Calls Try.prog f (#[.int .i64 (i : Int)] ++ caps) wx fun e w' => e = .returned (.bool (φ i)) ∧ Below wx.heap.size wx w') :
    Calls Try.prog 27 #[qtr p, .func (.func f) #[] caps] w fun e w' => e = .returned (.tuple #[]) ∧ Own.St B w0 w' (AVals p 62 (dkCells (.slice x.aN s.safe.length x.cN) (.slice x.aS s.safe.length x.cS) (.slice none 0 0) s.n s.off x.armed x.lf) :: bRow (.slice x.aS s.safe.length x.cS) s.safe.length (doAllF φ s.safe 0 s.L) :: ARow 68 257 (.slice none 0 0) 0 [] :: bRow (.slice x.aN s.safe.length x.cN) s.safe.length (nowG s.safe s.L) :: Ps) :=
  settle_st (nn := s.safe.length) (G := s.safe) (L := s.L) f caps φ (H.perm (perm_s _ _ _ _ _)) hsh hsg hacts hL hent hf
set_option maxHeartbeats 800000 in
theorem barrier_any (H : Own.St B w0 w (ADk p s :: Ps)) (ok : Ok s N) (hN : N ≤ 10000) :
    Calls Try.prog 32 #[qtr p] w fun e w' => e = .returned (errW (barrier s).2) ∧ Own.St B w0 w' (ADk p (barrier s).1 :: Ps) := by
  obtain ⟨x, hx, h⟩ := dkOpen H
  have HB := Lib.hid (begin_dk h hx ok hN)
  by_cases ho : (trip s).off = true
  · have HE : Hid (barrier s = (trip s, 6)) := by
      show barrier s = (trip s, 6)
      unfold barrier
      rw [if_pos ho]
    have HB2 : Hid (Calls Try.prog 30 #[qtr p] w fun e w' => e = .returned (errW 6) ∧ Own.St B w0 w' (ADk p (trip s) :: Ps)) := by
      refine HB.out.mono ?_
      intro e w' h'
      rw [if_pos ho] at h'
      obtain ⟨he, x', hx', h2⟩ := h'
      exact ⟨he, dkClose hx' h2⟩
    rw [HE.out]
    clear ho H h HB ok hx
    go_enter Try.func32, Try.ntmps32
    go_wp2_with (fail)
    refine HB2.out.mono ?_
    clear HB2
    rintro e w2 ⟨rfl, h2⟩
    have H2 := Lib.hid h2
    clear h2
    go_wp2
    go_ret
    exact ⟨rfl, H2.out⟩
  · obtain ⟨t, htt⟩ : ∃ t, t = okd (trip s) := ⟨_, rfl⟩
    have HB2 : Hid (Calls Try.prog 30 #[qtr p] w fun e w' => e = .returned (errW 0) ∧ ∃ x', HRel x' t ∧ Own.St B w0 w' (dkParts p x' t ++ Ps)) := by
      refine HB.out.mono ?_
      intro e w' h'
      rw [if_neg ho, ← htt] at h'
      exact h'
    have g := ok_trip ok
    have hsh : Shape t.safe t.safe.length := by rw [htt]; exact g.shape
    have hsg : t.safe.length ≤ 4096 := by rw [htt]; exact g.len
    have hacts : ∀ a ∈ t.L, PutOk t.safe.length a := by rw [htt]; exact g.puts
    have hL : t.L.length ≤ 10000 := by rw [htt]; show (trip s).L.length ≤ _; rw [(trip_same s).2.1]; have := ok.log; have := ok.n; omega
    have HE : Hid (barrier s = ({ t with safe := nowG t.safe t.L, L := [] }, 0)) := by
      show barrier s = _
      unfold barrier
      rw [if_neg ho, htt]
      unfold some' okd
      simp only
      rw [doAll_full]
    have SET : Hid (∀ (wx : World) (x' : Hidden), HRel x' t → Own.St B w0 wx (dkParts p x' t ++ Ps) → Calls Try.prog 27 #[qtr p, .func (.func 38) #[] #[]] wx fun e w' => e = .returned (.tuple #[]) ∧ Own.St B w0 w' (ADk p { t with safe := nowG t.safe t.L, L := [] } :: Ps)) := by
      intro wx x' hx' hst
      refine (settle_dk hst hsh hsg hacts hL 38 #[] (fun _ => true) (fun _ _ => by simp [go_sem]) (fun i wy _ _ _ => whole_any i wy)).mono ?_
      rintro e w' ⟨he, h'⟩
      refine ⟨he, dkClose (x := { x' with vP := .slice none 0 0 }) ⟨hx'.i64, hx'.on, hx'.pos⟩ ?_⟩
      rw [doAllF_all _ (fun _ => rfl)] at h'
      have h2 := h'.perm (perm_s' _ _ _ _ _)
      unfold dkParts
      simp only [nowG_len]
      exact h2
    rw [HE.out]
    clear ho H h HB ok hx htt g hsh hsg hacts hL
    go_enter Try.func32, Try.ntmps32
    go_wp2_with (fail)
    refine HB2.out.mono ?_
    clear HB2
    rintro e w2 ⟨rfl, x', hx', h2⟩
    have S2 := Lib.hid (SET.out w2 x' hx' h2)
    clear h2 SET hx'
    go_wp2_with (fail)
    refine S2.out.mono ?_
    clear S2
    rintro e w3 ⟨rfl, h3⟩
    have H3 := Lib.hid h3
    clear h3
    go_wp2
    go_ret
    exact ⟨rfl, H3.out⟩
end
end Bak
end Go.Proofs.Ytkddeccgoamopaa
