/- The landed flash: Erase, Barrier, Crash. -/
import Derived.Test.YtepllhfofhehaaaFlbH
namespace Go.Proofs.Ytepllhfofhehaaa
open Go.RowKit Go.Own
namespace Fla
open Go.FlaM Byt
/-- a struct literal, its cells known -/
theorem wpList_built {P : Program} {ops : Array Oper} {rest : List Oper} {o : Oper} {a : Go.Act} {w : World} {Q : Exit → Go.Act → World → Prop} (hgd : o.guard = none) (t : TypeId) (parts : Array (Nat × Operand)) (ho : o.op = .build t parts) (cells : Array Value)
    (hf : P.built t (parts.map fun (i, x) => (i, a.eval x)).toList = some cells) (h : wpList P ops Q rest (a.put o.dst (.agg cells)) w) : wpList P ops Q (o :: rest) a w := by
  refine wpList_plain hgd fun K hK => ?_
  have := run_build w t (parts.map fun (i, x) => (i, a.eval x)) cells hf
  unfold Oper.wp
  simp [execOp, ho, this, Result.andThen]
  exact hK _ _ h
theorem built_erase (k : Nat) : Try.prog.built 78 [(0, .bool true), (1, .int .i64 (k : Int))] = some (opCells ⟨k, -1, []⟩).toArray := by kernel_rfl
theorem built_prog0 (k q : Nat) (f : Nat → Value) : Try.prog.built 78 [(1, .int .i64 (k : Int)), (2, .int .i64 (q : Int)), (3, .agg ((List.range 128).map f).toArray)] = some (([.bool false, .int .i64 (k : Int), .int .i64 (q : Int)] : List Value) ++ ((List.range 128).map f)).toArray := by kernel_rfl
theorem built_prog (k q : Nat) (b : Bs) (hb : b.length = 128) : Try.prog.built 78 [(1, .int .i64 (k : Int)), (2, .int .i64 (q : Int)), (3, .agg (b.map byteV).toArray)] = some (opCells ⟨k, (q : Int), b⟩).toArray := by
  have h := built_prog0 k q (fun i => (b.map byteV).getD i undef)
  rw [range_map (b.map byteV) 128 (by simp [hb])] at h
  rw [h]
  unfold opCells wOf
  rw [if_neg (by show ¬ (q : Int) < 0; omega), decide_eq_false (by show ¬ (q : Int) < 0; omega)]
  rfl
theorem trip_off {x : Hidden} {s : FS} (hx : HRel x s) : (s.off || (x.armed && decide (x.lf = 0))) = (trip s).off := by
  unfold trip
  cases ho : s.off with
  | true => split <;> simp_all
  | false =>
    obtain ⟨h1, h2⟩ := hx.on ho
    cases ha : x.armed with
    | true =>
      have := h1 ha
      by_cases h0 : s.left = 0
      · rw [if_pos h0]; simp [this, h0]
      · rw [if_neg h0]; simp [this, h0, ho]
    | false =>
      have := h2 ha
      rw [if_neg (by omega)]; simp [ho]
section
variable {B : Nat} {w0 w : World} {Ps : List Asn} {p : Nat} {s : FS} {N : Nat}
theorem begin_fl {x : Hidden} (H : Own.St B w0 w (flParts p x s ++ Ps)) (hx : HRel x s) (ok : Ok s N) (hN : N ≤ 10000) :
    Calls Try.prog 40 #[ptr p] w fun e w' => if (trip s).off = true then e = .returned (errV 6) ∧ ∃ x', HRel x' (trip s) ∧ Own.St B w0 w' (flParts p x' (trip s) ++ Ps)
      else e = .returned (errV 0) ∧ ∃ x', HRel x' (okd (trip s)) ∧ Own.St B w0 w' (flParts p x' (okd (trip s)) ++ Ps) := by
  obtain ⟨e1, e2, e3, e4, e5⟩ := trip_safe s
  have hn := ok.n
  refine (begin_st (n := s.n) H (by omega) hx.i64 hx.pos).mono ?_
  intro e w' h
  rw [trip_off hx] at h
  by_cases ho : (trip s).off = true
  · rw [if_pos ho] at h ⊢
    refine ⟨h.1, x, ⟨hx.i64, fun h0 => (by rw [ho] at h0; cases h0), hx.pos⟩, ?_⟩
    have h2 := h.2
    unfold flParts
    rw [e1, e2, e3, e4, e5, ho]
    exact h2
  · rw [if_neg ho] at h ⊢
    have hoff : (trip s).off = false := by simpa using ho
    have hto := trip_off hx
    rw [hoff] at hto
    have hso : s.off = false := by
      cases h : s.off with
      | false => rfl
      | true => rw [h] at hto; simp at hto
    have hl0 : ¬ s.left = 0 := fun h0 => by unfold trip at hoff; rw [if_pos h0] at hoff; cases hoff
    have htr : trip s = s := by unfold trip; rw [if_neg hl0]
    obtain ⟨r1, r2⟩ := hx.on hso
    have hlb := ok.left
    have hxi := hx.i64
    refine ⟨h.1, { x with lf := if x.armed = true then x.lf - 1 else x.lf }, ⟨?_, fun _ => ⟨fun ha => ?_, fun ha => ?_⟩, fun ha => ?_⟩, ?_⟩
    · show i64B (if x.armed = true then x.lf - 1 else x.lf)
      split
      · rename_i ha
        have := hx.pos ha
        obtain ⟨q1, q2⟩ := hxi
        exact ⟨by omega, by omega⟩
      · exact hxi
    · have ha' : x.armed = true := ha
      have hpos := hx.pos ha'
      have := r1 ha'
      show (if x.armed = true then x.lf - 1 else x.lf) = (if 0 < (trip s).left then (trip s).left - 1 else (trip s).left)
      rw [htr, if_pos ha', if_pos (by omega), this]
    · have ha' : x.armed = false := ha
      have := r2 ha'
      show (if 0 < (trip s).left then (trip s).left - 1 else (trip s).left) = -1
      rw [htr, if_neg (by omega), this]
    · have ha' : x.armed = true := ha
      have := r1 ha'
      have := hx.pos ha'
      show 0 ≤ (if x.armed = true then x.lf - 1 else x.lf)
      rw [if_pos ha']
      omega
    · have h2 := h.2
      rw [htr]
      unfold flParts okd
      simp only
      rw [hso]
      exact h2

theorem perm_d {α : Type _} (a b c d : α) (r : List α) : (a :: b :: c :: d :: r).Perm (a :: b :: d :: c :: r) := ((List.Perm.swap d c r).cons b).cons a
theorem perm_s {α : Type _} (a b c d : α) (r : List α) : (a :: b :: c :: d :: r).Perm (a :: c :: d :: b :: r) := ((List.Perm.swap c b _).trans ((List.Perm.swap d b r).cons c)).cons a
/-- an operation is done, and noted -/
theorem perform_fl {x : Hidden} (H : Own.St B w0 w (flParts p x s ++ Ps)) (hx : HRel x s) (hsh0 : Shape s.safe s.safe.length s.pp) (hsg : s.safe.length ≤ 256) (hpp : 1 ≤ s.pp ∧ s.pp ≤ 64) (hacts : ∀ a ∈ s.L, ActOk s.safe.length s.pp a) (a : FlaM.Act) (ha : ActOk s.safe.length s.pp a) (hL : s.L.length ≤ 10000) :
    Calls Try.prog 41 #[ptr p, .agg (opCells a).toArray] w fun e w' => e = .returned (.tuple #[]) ∧ Own.St B w0 w' (AFl p { s with L := s.L ++ [a] } :: Ps) := by
  have hsh := nowG_shape s.L s.safe hsh0 hacts
  refine (perform_st (nn := s.safe.length) (G := nowG s.pp s.safe s.L) (L := s.L) (H.perm (perm_d _ _ _ _ _)) hsh hsg hpp a ha hL).mono ?_
  rintro e w' ⟨he, vP', h⟩
  refine ⟨he, flClose (x := { x with vP := vP' }) ⟨hx.i64, hx.on, hx.pos⟩ ?_⟩
  have h2 := h.perm (perm_d _ _ _ _ _)
  unfold flParts
  show Own.St B w0 w' (_ :: gridT _ (nowG s.pp s.safe (s.L ++ [a])) :: _)
  rw [nowG_snoc, doOne_big hpp.2 _ a 128 9223372036854775807 (by decide) (by decide)]
  exact h2

set_option maxHeartbeats 1600000 in
theorem erase_any (H : Own.St B w0 w (AFl p s :: Ps)) (ok : Ok s N) (hN : N ≤ 10000) (seg : Int) (hseg : i64B seg) :
    Calls Try.prog 17 #[ptr p, .int .i64 seg] w fun e w' => e = .returned (errV (erase s seg).2) ∧ Own.St B w0 w' (AFl p (erase s seg).1 :: Ps) := by
  obtain ⟨x, hx, h⟩ := flOpen H
  have HS := Lib.hid (hasSeg_st h seg)
  have H0 := Lib.hid H
  have HB := Lib.hid (begin_fl h hx ok hN)
  have hpp := ok.pp
  have hdec : there s seg 0 = decide (0 ≤ seg ∧ seg < (s.safe.length : Int)) := by unfold there; congr 1; apply propext; constructor <;> omega
  by_cases hin : 0 ≤ seg ∧ seg < (s.safe.length : Int)
  · have ht : there s seg 0 = true := by rw [hdec, decide_eq_true hin]
    rw [decide_eq_true hin] at HS
    by_cases ho : (trip s).off = true
    · have HE : Hid (erase s seg = (trip s, 6)) := by
        show erase s seg = (trip s, 6)
        unfold erase
        rw [if_neg (by rw [ht]; decide), if_pos ho]
      have HB2 : Hid (Calls Try.prog 40 #[ptr p] w fun e w' => e = .returned (errV 6) ∧ Own.St B w0 w' (AFl p (trip s) :: Ps)) := by
        refine HB.out.mono ?_
        intro e w' h'
        rw [if_pos ho] at h'
        obtain ⟨he, x', hx', h2⟩ := h'
        exact ⟨he, flClose hx' h2⟩
      rw [HE.out]
      clear hin hdec ht ho H h HB hpp ok hx
      go_enter Try.func17, Try.ntmps17
      go_wp2_with (fail)
      refine HS.out.mono ?_
      rintro e w1 ⟨rfl, rfl⟩
      clear HS
      go_wp2_with (fail)
      refine HB2.out.mono ?_
      clear HB2
      rintro e w2 ⟨rfl, h2⟩
      have H2 := Lib.hid h2
      clear h2
      go_wp2
      go_ret
      exact ⟨rfl, H2.out⟩
    · obtain ⟨k, hk⟩ : ∃ k : Nat, seg = (k : Int) := ⟨seg.toNat, by omega⟩
      subst hk
      have HE : Hid (erase s (k : Int) = ({ okd (trip s) with L := (okd (trip s)).L ++ [⟨k, -1, []⟩], wear := bump (okd (trip s)).wear k }, 0)) := by
        show erase s (k : Int) = _
        unfold erase
        rw [if_neg (by rw [ht]; decide), if_neg ho]
        rfl
      have okt : Ok (okd (trip s)) (N + 1) := by
        have g := ok_trip ok
        exact ⟨g.segs, g.pp, g.rows, g.pages, g.wear, g.acts, left_okd _ g.left, Nat.succ_le_succ g.n, Nat.le_succ_of_le g.log, fun i => Nat.le_succ_of_le (g.worn i)⟩
      have hsl : (okd (trip s)).safe.length = s.safe.length := by show (trip s).safe.length = _; rw [(trip_safe s).1]
      obtain ⟨t, htt⟩ : ∃ t, t = okd (trip s) := ⟨_, rfl⟩
      rw [← htt] at HE okt hsl
      have HB2 : Hid (Calls Try.prog 40 #[ptr p] w fun e w' => e = .returned (errV 0) ∧ ∃ x', HRel x' t ∧ Own.St B w0 w' (flParts p x' t ++ Ps)) := by
        refine HB.out.mono ?_
        intro e w' h'
        rw [if_neg ho, ← htt] at h'
        exact h'
      have HOK := Lib.hid okt
      have hkl : k < t.safe.length := by omega
      have hlog : t.L.length ≤ 10000 := by rw [htt]; show (trip s).L.length ≤ _; rw [(trip_safe s).2.1]; have := ok.log; have := ok.n; omega
      rw [HE.out]
      clear hin hdec ht ho H h HB hpp ok hx htt hsl okt
      go_enter Try.func17, Try.ntmps17
      go_wp2_with (fail)
      refine HS.out.mono ?_
      rintro e w1 ⟨rfl, rfl⟩
      clear HS
      go_wp2_with (fail)
      refine HB2.out.mono ?_
      clear HB2
      rintro e w2 ⟨rfl, x', hx', h2⟩
      have hwl := HOK.out.wear
      obtain ⟨aW, cW, hW⟩ := h2.rowForm 4 rfl
      have c4 := (h2.cellV 0 rfl 4 rfl).1
      rw [hW] at c4
      have h4 : (flParts p x' t ++ Ps)[4]? = some (ARow 3 1 (.slice aW t.wear.length cW) t.wear.length (t.wear.map intV)) := by rw [← hW]; rfl
      obtain ⟨g, rfl, ⟨u, hu, cu⟩, fu, put⟩ := h2.rowAt 4 h4 k (by omega)
      obtain ⟨q, hq⟩ : ∃ q, t.wear[k]? = some q := ⟨_, List.getElem?_eq_getElem (by omega)⟩
      rw [List.getElem?_map, hq] at hu
      cases hu
      have hqn : q ≤ 10001 := by
        have h1 := HOK.out.worn k
        rw [List.getD_eq_getElem?_getD, hq] at h1
        have h2 := HOK.out.n
        exact Nat.le_trans h1 (by omega)
      obtain ⟨q1, hq1⟩ : ∃ x, q + 1 = x := ⟨_, rfl⟩
      have hqi : (q : Int) + 1 = (q1 : Int) := by omega
      have PF : Hid (∀ (wx : World), wx = w2.setCell ⟨g, k, none⟩ (intV q1) → Calls Try.prog 41 #[ptr p, .agg (opCells ⟨k, -1, []⟩).toArray] wx fun e w' => e = .returned (.tuple #[]) ∧ Own.St B w0 w' (AFl p { t with L := t.L ++ [⟨k, -1, []⟩], wear := bump t.wear k } :: Ps)) := by
        intro wx hwx
        subst hwx
        have hst : Own.St B w0 (w2.setCell ⟨g, k, none⟩ (intV q1)) (flParts p x' { t with wear := bump t.wear k } ++ Ps) := by
          have h5 := put (intV q1)
          have e1 : (flParts p x' t ++ Ps).set 4 (ARow 3 1 (.slice (some ⟨g, 0, none⟩) t.wear.length cW) t.wear.length ((t.wear.map intV).set k (intV q1))) = flParts p x' { t with wear := bump t.wear k } ++ Ps := by
            unfold flParts
            simp only [List.cons_append, List.nil_append, List.set_cons_succ, List.set_cons_zero]
            have e2 : bump t.wear k = t.wear.set k q1 := by unfold bump; rw [List.getD_eq_getElem?_getD, hq]; simp [hq1]
            rw [e2, List.length_set, List.map_set, ← hW]
          rw [e1] at h5
          exact h5
        exact perform_fl (s := { t with wear := bump t.wear k }) hst ⟨hx'.i64, hx'.on, hx'.pos⟩ HOK.out.shape HOK.out.segs HOK.out.pp HOK.out.acts ⟨k, -1, []⟩ ⟨hkl, .inr ⟨rfl, rfl⟩⟩ hlog
      obtain ⟨nW, hnW⟩ : ∃ n, n = t.wear.length := ⟨_, rfl⟩
      rw [← hnW] at c4
      have hkn : k < nW := by rw [hnW, hwl]; exact hkl
      clear put h4 hW hq h2 hnW hwl hq1 hx'
      obtain ⟨cs, hcs⟩ : ∃ c, c = opCells ⟨k, -1, []⟩ := ⟨_, rfl⟩
      have BE : Hid (Try.prog.built 78 [(0, .bool true), (1, .int .i64 (k : Int))] = some cs.toArray) := by rw [hcs]; exact built_erase k
      rw [← hcs] at PF
      clear hcs
      go_wp2_with (refine Fla.wpList_built rfl 78 #[(0, .const (.bool true)), (1, .tmp 27)] rfl cs.toArray ?_ ?_; · (simp only [List.map_toArray, List.map_cons, List.map_nil, List.toList_toArray]; exact BE.out))
      refine (PF.out _ rfl).mono ?_
      clear PF BE
      rintro e w3 ⟨rfl, h3⟩
      have H3 := Lib.hid h3
      clear h3
      go_wp2
      go_ret
      exact ⟨rfl, H3.out⟩
  · have ht : there s seg 0 = false := by rw [hdec, decide_eq_false hin]
    rw [decide_eq_false hin] at HS
    have HE : Hid (erase s seg = (s, 1)) := by
      show erase s seg = (s, 1)
      unfold erase
      rw [if_pos ht]
    rw [HE.out]
    clear hin hdec ht H h HB hpp ok hx
    go_enter Try.func17, Try.ntmps17
    go_wp2_with (fail)
    refine HS.out.mono ?_
    rintro e w1 ⟨rfl, rfl⟩
    clear HS
    go_wp2
    go_ret
    exact ⟨rfl, H0.out⟩
end
end Fla
end Go.Proofs.Ytepllhfofhehaaa
