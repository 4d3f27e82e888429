/- Merged: TbaA Cpm TbaB TbaC SrtA SrtB Rdw TbaD TbaE TbaF TbaG -/
import Derived.Sort.AssemblyPlain
import Derived.Sort.LotA
import Derived.BigRegion
import Derived.ArgAppend
import Derived.Test.YtlgfddpgmpabcaaQ1
import Derived.Test.YtlgfddpgmpabcaaQ2
import Derived.Test.YtlgfddpgmpabcaaQ3
section
namespace Go.Proofs.Ytlgfddpgmpabcaa
open Go.RowKit Go.Own
namespace Tba
open Go.TabM Tab
/-- the landed table at p, its rows at v -/
def AT (p : Nat) (v : Value) (t : T) : Asn := AJoin [AVals p 61 (tabC v t), RowG v t.rows]
def A (p : Nat) (t : T) : Asn := AEx fun v => AT p v t
/-- the segments of a kind, counted from i -/
def allF (k : Nat) : Nat → List Sg → List Nat
  | _, [] => []
  | i, s :: l => if s.kind = k then i :: allF k (i + 1) l else allF k (i + 1) l
def allL (k : Nat) (t : T) : List Nat := allF k 0 t.rows
theorem allF_at (k : Nat) {l : List Sg} {i : Nat} (hi : i < l.length) : allF k i (l.drop i) = if (at_ l i).kind = k then i :: allF k (i + 1) (l.drop (i + 1)) else allF k (i + 1) (l.drop (i + 1)) := by
  rw [List.drop_eq_getElem_cons hi, allF, at_lt hi]
theorem allF_cur : ∀ (l : List Sg) (i : Nat), curF i l = (allF 1 i l).head?
  | [], _ => rfl
  | s :: l, i => by
    unfold curF allF
    by_cases h : s.kind = 1
    · rw [if_pos h, if_pos h]; rfl
    · rw [if_neg h, if_neg h]; exact allF_cur l (i + 1)
theorem allF_len (k : Nat) : ∀ (l : List Sg) (i : Nat), (allF k i l).length = l.countP (fun s => decide (s.kind = k))
  | [], _ => rfl
  | s :: l, i => by
    unfold allF
    by_cases h : s.kind = k
    · rw [if_pos h, List.length_cons, allF_len k l, List.countP_cons_of_pos (by simpa using h)]
    · rw [if_neg h, allF_len k l, List.countP_cons_of_neg (by simpa using h)]
theorem allF_mem (k : Nat) : ∀ (l : List Sg) (i j : Nat), j ∈ allF k i l → ∃ m s, j = i + m ∧ l[m]? = some s ∧ s.kind = k
  | [], _, _, h => by cases h
  | s :: l, i, j, h => by
    unfold allF at h
    have go : j ∈ allF k (i + 1) l → ∃ m s', j = i + m ∧ (s :: l)[m]? = some s' ∧ s'.kind = k := fun h => by
      obtain ⟨m, s', e, h1, h2⟩ := allF_mem k l (i + 1) j h
      exact ⟨m + 1, s', by omega, h1, h2⟩
    by_cases hs : s.kind = k
    · rw [if_pos hs] at h
      rcases List.mem_cons.1 h with rfl | h
      · exact ⟨0, s, rfl, rfl, hs⟩
      · exact go h
    · rw [if_neg hs] at h
      exact go h
theorem all_lt {k : Nat} {t : T} {j : Nat} (h : j ∈ allL k t) : j < t.rows.length ∧ (at_ t.rows j).kind = k := by
  obtain ⟨m, s, e, h1, h2⟩ := allF_mem k _ _ _ h
  rw [Nat.zero_add] at e
  subst e
  exact ⟨(List.getElem?_eq_some_iff.1 h1).1, by rw [at_eq h1]; exact h2⟩
theorem boxy_seg : Boxy Try.prog 44 3 := boxy_of (sgC zS).toArray zero_seg rfl (by kernel_rfl)
section
variable {B : Nat} {w0 w : World} {Ps : List Asn} {p : Nat} {v : Value} {t : T} {N : Nat}
theorem at_open (h : Own.St B w0 w (AT p v t :: Ps)) : Own.St B w0 w (AVals p 61 (tabC v t) :: RowG v t.rows :: Ps) := h.openJ
theorem at_close (h : Own.St B w0 w (AVals p 61 (tabC v t) :: RowG v t.rows :: Ps)) : Own.St B w0 w (AT p v t :: Ps) := Own.St.closeJ (Qs := [_, _]) h
set_option maxHeartbeats 4000000 in
theorem all_any (H : Own.St B w0 w (AT p v t :: Ps)) (ok : Ok t N) (k : Nat) (hk : k ≤ 2) : Calls Try.prog 36 #[ptr p, .int .u8 (k : Int)] w fun e w' => ∃ ao c, e = .returned (.slice ao (allL k t).length c) ∧ Own.St w.heap.size w w' [RowI (.slice ao (allL k t).length c) (allL k t) (allL k t).length] := by
  have h0 := at_open H
  obtain ⟨ao, cap, rfl⟩ := h0.rowForm 1 rfl
  have c0 := (h0.cellV 0 rfl 0 rfl).1
  have hlen := ok.len
  have HOK := Lib.hid ok
  obtain ⟨R, hR⟩ : ∃ R, R = allL k t := ⟨_, rfl⟩
  rw [← hR]
  have HR0 : Hid (R = [] ++ allF k 0 (t.rows.drop 0)) := hR
  obtain ⟨n, hn⟩ : ∃ n, n = t.rows.length := ⟨_, rfl⟩
  have HN := Lib.hid hn
  rw [← hn] at c0 hlen
  have hst : Own.St w.heap.size w w [RowI (.slice none 0 0) [] 0] := (Own.St.start w).rowFresh
  have htb : Own.St B w0 w (AVals p 61 (tabC (.slice ao n cap) t) :: RowG (.slice ao n cap) t.rows :: Ps) := by rw [hn]; exact h0
  have HTB := Lib.hid htb
  have HST := Lib.hid hst
  clear H h0 ok hn hR hst htb
  go_enter Try.func36, Try.ntmps36
  go_wp2
  go_loopw [5, 15] (fun v5 v15 wr => ∃ (i m : Nat) (acc : List Nat) (a : Option Addr) (c : Nat), i ≤ n ∧ v5 = .slice a m c ∧ v15 = .int .i64 (i : Int) ∧ acc.length = m ∧ m ≤ i ∧ R = acc ++ allF k i (t.rows.drop i) ∧ Own.St w.heap.size w wr [RowI (.slice a m c) acc m]) (fun _ v15 _ => n - (intOf v15).toNat)
  case atStart => exact ⟨0, 0, [], none, 0, Nat.zero_le _, rfl, rfl, rfl, Nat.le_refl _, HR0.out, HST.out⟩
  case round =>
    obtain ⟨i, m, acc, a, c, hin, rfl, rfl, hm, hmi, hr, h⟩ := hrel
    have HM := Lib.hid hm
    have HRR := Lib.hid hr
    have HH := Lib.hid h
    have HT := Lib.hid (HTB.out.later h.below)
    clear hm hr h HST HR0 c0
    by_cases hi : (i : Int) < (n : Int)
    · have hil : i < t.rows.length := by rw [← HN.out]; omega
      have hin2 : i < n := by omega
      obtain ⟨g, cc, e, ha⟩ := rowG_at HT.out 1 rfl i hil
      simp only [Value.slice.injEq] at e
      obtain ⟨rfl, hnn, rfl⟩ := e
      clear hnn
      have HSA := Lib.hid (HRR.out.trans (congrArg (acc ++ ·) (allF_at k hil)))
      obtain ⟨s, hs⟩ : ∃ s, s = at_ t.rows i := ⟨_, rfl⟩
      rw [← hs] at ha HSA
      have a0 := ha.c0
      have a1 := ha.c1
      have a2 := ha.c2
      obtain ⟨kk, hkk⟩ : ∃ k, k = s.kind := ⟨_, rfl⟩
      have hk2 : kk ≤ 2 := by rw [hkk, hs]; exact HOK.out.kind _ (at_mem hil)
      obtain ⟨cs, hcs⟩ : ∃ cs, cs = sgC s := ⟨_, rfl⟩
      have CL : Hid (cs.length = 3) := by rw [hcs]; exact rfl
      have CO : Hid (∀ u ∈ cs, u.oneCell' = true) := by
        intro u hu
        rw [hcs] at hu
        simp [sgC] at hu
        rcases hu with rfl | rfl | rfl <;> rfl
      have K0 : Hid (cs[0]? = some (.int .u8 (kk : Int))) := by rw [hcs, hkk]; exact rfl
      have CE : Hid (Value.agg #[.int .u8 (kk : Int), .int .u64 (s.seq : Int), .int .u32 (s.wear : Int)] = .agg cs.toArray) := by rw [hcs, hkk]; exact rfl
      rw [← hkk] at a0 HSA
      clear ha hkk hs hcs HRR
      by_cases h1 : kk = k
      · have hb : ((kk : Int) == (k : Int)) = true := by simp; omega
        have HSB : Hid (R = (acc ++ [i]) ++ allF k (i + 1) (t.rows.drop (i + 1))) := by show _ = _; rw [HSA.out, if_pos h1]; simp
        obtain ⟨hx1, hx2, hx3, hx4⟩ := HH.out.rowLen 0 rfl
        have hc63 : c ≤ 9223372036854775807 := by unfold maxLen at hx3; omega
        clear HSA hx1 hx3 hx4 h1
        go_wp2_with (first
          | (refine wpList_newZ (sgC zS) zero_seg rfl rfl HH.out ?_; intro b7 w7 h; have H7 := Lib.hid h; clear h)
          | (refine wpList_fill boxy_seg rfl (.tmp 7) (.tmp 19) rfl rfl H7.out 0 rfl rfl cs rfl CE.out CL.out CO.out ?_; intro w8 h; simp only [List.set_cons_zero] at h; have H8 := Lib.hid h; have d0 := (h.cellV 0 rfl 0 K0.out).1; have HK := Lib.hid (h.alloc (.cells #[.int .i64 (i : Int)] 3)); have ONE := Lib.hid (one_cellI w8 i); clear h)
          | (at_builtin; refine wpList_many_append manyInt rfl (.tmp 24) (.tmp 26) rfl HK.out 1 rfl rfl (some ⟨w8.heap.size, 0, none⟩) 1 1 [iV i] rfl (by intro h; cases h) rfl ONE.out (by intro u hu; simp at hu; subst hu; rfl) (by omega) (by decide) ?_; intro a9 c9 w9 h9; simp only [List.set_cons_zero, List.set_cons_succ] at h9 ⊢; have H9 := Lib.hid h9; clear h9))
        go_roundw
        case rel =>
          refine ⟨i + 1, m + 1, acc ++ [i], a9, c9, by omega, rfl, by go_num, by rw [List.length_append, HM.out]; rfl, by omega, HSB.out, ?_⟩
          have h := H9.out.drop 1
          simp only [List.drop_succ_cons, List.drop_zero] at h
          show Own.St _ _ _ [ARow 3 1 (.slice a9 (m + 1) c9) (m + 1) ((acc ++ [i]).map iV)]
          rw [show (acc ++ [i]).map iV = acc.map iV ++ [iV i] by simp]
          exact h
        case measure => simp [intOf]; omega
      · have hb : ((kk : Int) == (k : Int)) = false := by simp; omega
        have HSB : Hid (R = acc ++ allF k (i + 1) (t.rows.drop (i + 1))) := by show _ = _; rw [HSA.out, if_neg h1]
        clear HSA h1
        go_wp2_with (first
          | (refine wpList_newZ (sgC zS) zero_seg rfl rfl HH.out ?_; intro b7 w7 h; have H7 := Lib.hid h; clear h)
          | (refine wpList_fill boxy_seg rfl (.tmp 7) (.tmp 19) rfl rfl H7.out 0 rfl rfl cs rfl CE.out CL.out CO.out ?_; intro w8 h; simp only [List.set_cons_zero] at h; have H8 := Lib.hid h; have d0 := (h.cellV 0 rfl 0 K0.out).1; clear h))
        go_roundw
        case rel =>
          refine ⟨i + 1, m, acc, a, c, by omega, rfl, by go_num, HM.out, by omega, HSB.out, ?_⟩
          have h := H8.out.drop 1
          simp only [List.drop_succ_cons, List.drop_zero] at h
          exact h
        case measure => simp [intOf]; omega
    · have HE : Hid (R = acc) := by
        show _ = _
        rw [HRR.out, List.drop_of_length_le (by rw [← HN.out]; omega)]
        simp [allF]
      clear HRR
      go_wp2
      go_ret
      rw [HE.out, HM.out]
      refine ⟨a, c, rfl, ?_⟩
      exact HH.out
end
end Tba
end Go.Proofs.Ytlgfddpgmpabcaa

end
section
namespace Go.Own
open Go.RowKit
section
variable {P : Program}
theorem run_copy_size (w : World) (dT sT ty elem : TypeId) (size b o dLen dCap : Nat) (a : Addr) (sLen sCap n : Nat) (cs : List Value)
    (hu : P.underlying dT = some (.slice elem)) (hs : (P.info? elem).map (·.size) = some size) (hn : Nat.min sLen dLen = n) (hl : cs.length = n * size)
    (hsrc : ∀ j v, cs[j]? = some v → w.cell? (a.add j) = some v) (hc : ∀ j, j < cs.length → (w.cell? ⟨b, o + j, none⟩).isSome = true) (hf : ∀ j, j < cs.length → w.frozen? ⟨b, o + j, none⟩ = false) (h1 : ∀ v ∈ cs, v.oneCell' = true) :
    (Builtin.copy_ #[dT, sT] ty #[.slice (some ⟨b, o, none⟩) dLen dCap, .slice (some a) sLen sCap]).run P w = .ok (goInt n) (w.setCells b o cs) := by
  have hfc := run_firstCells_some (P := P) w size n a sLen sCap cs hl hsrc
  have hst := run_storeCells_cells (P := P) b o cs 0 w (by simpa using hc) (by simpa using hf) h1
  cases hq : P.info? elem with
  | none => simp [hq] at hs
  | some i =>
    have hi : i.size = size := by simpa [hq] using hs
    have hst' : (storeCells ⟨b, o, none⟩ cs.toArray.toList).run P w = .ok () (w.setCells b o cs) := by simpa using hst
    simp only [Builtin.firstCells] at hfc
    simp [Builtin.copy_, run_underlying hu, Builtin.lenOf, Builtin.firstCells, sizeOf, typeInfo, hq, hi, hn, hfc, hst]
theorem run_copy_size_none (w : World) (dT sT ty elem : TypeId) (size : Nat) (d : Option Addr) (dLen dCap sCap : Nat) (hu : P.underlying dT = some (.slice elem)) (hs : (P.info? elem).map (·.size) = some size) :
    (Builtin.copy_ #[dT, sT] ty #[.slice d dLen dCap, .slice none 0 sCap]).run P w = .ok (goInt 0) w := by
  cases hq : P.info? elem with
  | none => simp [hq] at hs
  | some i => cases d <;> simp [Builtin.copy_, run_underlying hu, Builtin.lenOf, Builtin.firstCells, sizeOf, typeInfo, hq, storeCells]
end
section
variable {P : Program} {t e : TypeId} {size bytes : Nat} {B : Nat} {w0 : World} {Ps : List Asn}
/-- copy(x, b): b is not longer than x -/
theorem wpList_row_copy {ops : Array Oper} {rest : List Oper} {o : Oper} {a : Act} {w : World} {Q : Exit → Act → World → Prop} (O : Many P t e size bytes) (hgd : o.guard = none) (d s : Operand) (t2 : TypeId)
    (ho : o.op = .call { callee := .builtin .copy, args := #[d, s], argTypes := #[t, t2] }) (H : St B w0 w Ps) (i : Nat) {g n cap : Nat} {xs : List Value} (hi : Ps[i]? = some (ARow e size (.slice (some ⟨g, 0, none⟩) n cap) n xs)) (hd : a.eval d = .slice (some ⟨g, 0, none⟩) n cap)
    (bo : Option Addr) (m c : Nat) (news : List Value) (hx : a.eval s = .slice bo m c) (hl : news.length = m * size) (hmn : m ≤ n) (hno : bo = none → m = 0)
    (hc : ∀ a, bo = some a → ∀ j u, news[j]? = some u → w.cell? (a.add j) = some u) (h1 : ∀ v ∈ news, v.oneCell' = true)
    (h : ∀ w', St B w0 w' (Ps.set i (ARow e size (.slice (some ⟨g, 0, none⟩) n cap) n (news ++ xs.drop (m * size)))) → wpList P ops Q rest (a.put o.dst (goInt m)) w') : wpList P ops Q (o :: rest) a w := by
  have hs : (P.info? e).map (·.size) = some size := by
    obtain ⟨i0, hi0, hq⟩ := Option.map_eq_some_iff.1 O.info
    simp only [Prod.mk.injEq] at hq
    rw [hi0]
    exact congrArg some hq.2.1
  have hms : m * size ≤ n * size := Nat.mul_le_mul_right _ hmn
  refine wpList_plain hgd fun K hK => ?_
  have hset := St.rowCells i news 0 w Ps xs H hi (by omega)
  rw [List.take_zero, List.nil_append, Nat.zero_add, hl] at hset
  have hcells : ∀ j, j < news.length → (w.cell? ⟨g, 0 + j, none⟩).isSome = true ∧ w.frozen? ⟨g, 0 + j, none⟩ = false := by
    intro j hj
    obtain ⟨hlen, _⟩ := H.rowLen i hi
    obtain ⟨h1, h2⟩ := St.rowRange H i hi j (by omega)
    rw [Nat.zero_add]
    refine ⟨?_, h2⟩
    rw [h1, List.getElem?_eq_getElem (by omega)]
    rfl
  have hrun : (Builtin.copy_ #[t, t2] o.type #[.slice (some ⟨g, 0, none⟩) n cap, .slice bo m c]).run P w = .ok (goInt m) (w.setCells g 0 news) := by
    cases bo with
    | none =>
      have hm := hno rfl
      subst hm
      obtain rfl : news = [] := List.eq_nil_of_length_eq_zero (by rw [hl, Nat.zero_mul])
      exact run_copy_size_none w t t2 o.type e size _ n cap c O.slice hs
    | some ad => exact run_copy_size w t t2 o.type e size g 0 n cap ad m c m news O.slice hs (Nat.min_eq_left hmn) hl (hc ad rfl) (fun j hj => (hcells j hj).1) (fun j hj => (hcells j hj).2) h1
  unfold Oper.wp
  simp [execOp, ho, resolve, invoke, builtin, hd, hx, hrun, Result.andThen]
  exact hK _ _ (h _ hset)
end
end Go.Own

end
section
namespace Go.Proofs.Ytlgfddpgmpabcaa
open Go.RowKit Go.Own
namespace Tba
open Go.TabM Tab
theorem curV_some {t : T} {j : Nat} {l : List Nat} (h : allL 1 t = j :: l) : curV t = .tuple #[.int .i64 (j : Int), .bool true] := by
  have : cur t = some j := by unfold cur; rw [allF_cur]; unfold allL at h; rw [h]; rfl
  unfold curV; rw [this]; rfl
theorem curV_none {t : T} (h : allL 1 t = []) : curV t = .tuple #[.int .i64 0, .bool false] := by
  have : cur t = none := by unfold cur; rw [allF_cur]; unfold allL at h; rw [h]; rfl
  unfold curV; rw [this]; rfl
theorem free_len (t : T) : freeN t = (allL 0 t).length := (allF_len 0 t.rows 0).symm
theorem sgC_one (l : List Sg) : ∀ v ∈ l.flatMap sgC, v.oneCell' = true := by
  intro v hv
  obtain ⟨s, _, h⟩ := List.mem_flatMap.1 hv
  simp [sgC] at h
  rcases h with rfl | rfl | rfl <;> rfl
theorem flat_len3 (l : List Sg) : (l.flatMap sgC).length = l.length * 3 := by
  induction l with
  | nil => rfl
  | cons s l ih => rw [List.flatMap_cons, List.length_append, ih]; show 3 + _ = _; simp; omega
section
variable {B : Nat} {w0 w : World} {Ps : List Asn} {p : Nat} {v : Value} {t : T} {N : Nat}
set_option maxHeartbeats 1600000 in
theorem cur_any (H : Own.St B w0 w (AT p v t :: Ps)) (ok : Ok t N) : Calls Try.prog 23 #[ptr p] w fun e w' => e = .returned (curV t) ∧ Below w.heap.size w w' := by
  have CC := Lib.hid (all_any H ok 1 (by decide))
  obtain ⟨L, hL⟩ : ∃ L, L = allL 1 t := ⟨_, rfl⟩
  rw [← hL] at CC
  have hlen : L.length ≤ 256 := by rw [hL]; unfold allL; rw [allF_len]; exact Nat.le_trans List.countP_le_length ok.len
  clear H ok
  cases L with
  | nil =>
    rw [curV_none hL.symm]
    clear hL hlen
    go_enter Try.func23, Try.ntmps23
    go_wp2_with (fail)
    refine CC.out.mono ?_
    clear CC
    rintro e w' ⟨ao, c, rfl, h⟩
    have g := h.below
    have HG := Lib.hid g
    clear g h
    go_wp2
    go_ret2
    exact ⟨rfl, HG.out⟩
  | cons j l =>
    rw [curV_some hL.symm]
    clear hL
    obtain ⟨n, hn⟩ : ∃ n, n = (j :: l).length := ⟨_, rfl⟩
    have hn1 : 0 < n := by rw [hn]; exact Nat.succ_pos _
    rw [← hn] at CC hlen
    clear hn
    go_enter Try.func23, Try.ntmps23
    go_wp2_with (fail)
    refine CC.out.mono ?_
    clear CC
    rintro e w' ⟨ao, c, rfl, h⟩
    have HG := Lib.hid h.below
    obtain ⟨g, rfl, ⟨u, hu, d0⟩, _, _⟩ := h.rowAt 0 rfl 0 (by omega)
    rw [List.map_cons] at hu
    cases hu
    clear h
    have hgt : (n : Int) > 0 := by omega
    go_wp2
    go_ret2
    exact ⟨rfl, HG.out⟩
set_option maxHeartbeats 1600000 in
theorem free_any (H : Own.St B w0 w (AT p v t :: Ps)) (ok : Ok t N) : Calls Try.prog 24 #[ptr p] w fun e w' => e = .returned (iV (freeN t)) ∧ Below w.heap.size w w' := by
  have CC := Lib.hid (all_any H ok 0 (by decide))
  rw [free_len]
  obtain ⟨n, hn⟩ : ∃ n, n = (allL 0 t).length := ⟨_, rfl⟩
  rw [← hn] at CC ⊢
  clear H ok hn
  go_enter Try.func24, Try.ntmps24
  go_wp2_with (fail)
  refine CC.out.mono ?_
  clear CC
  rintro e w' ⟨ao, c, rfl, h⟩
  have HG := Lib.hid h.below
  clear h
  go_wp2
  go_ret
  exact ⟨rfl, HG.out⟩
theorem next_any (H : Own.St B w0 w (AT p v t :: Ps)) : Calls Try.prog 17 #[ptr p] w fun e w' => e = .returned (.int .u64 (t.next : Int)) ∧ Below w.heap.size w w' := by
  have h0 := at_open H
  have c1 := (h0.cellV 0 rfl 1 rfl).1
  clear H h0
  go_enter Try.func17, Try.ntmps17
  go_wp2
  go_ret
  exact ⟨rfl, Below.refl _ _⟩
/-- a row of segments that lies somewhere is copied into a new one -/
theorem copied_any (H : Own.St B w0 w Ps) (ao : Option Addr) (n c : Nat) (rows : List Sg) (hn : rows.length = n) (hn2 : n ≤ 256) (hno : ao = none → n = 0)
    (hc : ∀ w', Below w.heap.size w w' → ∀ a, ao = some a → ∀ j u, (rows.flatMap sgC)[j]? = some u → w'.cell? (a.add j) = some u) :
    Calls Try.prog 33 #[.slice ao n c] w fun e w' => ∃ g, e = .returned (.slice (some ⟨g, 0, none⟩) n n) ∧ Own.St B w0 w' (RowG (.slice (some ⟨g, 0, none⟩) n n) rows :: Ps) := by
  obtain ⟨w2, g, hmk, hst⟩ := St.manyMake (zs := sgC zS) manySeg zero_seg rfl H .i64 .i64 n (by omega) (by decide)
  obtain ⟨zz, hzz⟩ : ∃ z, z = (List.replicate n (sgC zS)).flatten := ⟨_, rfl⟩
  have hzl : zz.length = n * 3 := by rw [hzz]; simp
  rw [← hzz] at hst
  have HS := Lib.hid hst
  have hstep := (hst.below)
  have HC := Lib.hid hc
  have HF : Hid ((rows.flatMap sgC).length = n * 3) := by show _ = _; rw [flat_len3, hn]
  have HN := Lib.hid hn
  have HNO := Lib.hid hno
  have HO := Lib.hid (sgC_one rows)
  have HZ := Lib.hid hzl
  obtain ⟨w2', g', hmk', hst'⟩ := St.manyMake (zs := sgC zS) manySeg zero_seg rfl (Own.St.start w) .i64 .i64 n (by omega) (by decide)
  rw [hmk] at hmk'
  obtain ⟨-, rfl⟩ : _ ∧ w2 = w2' := by simpa using hmk'
  have HB := Lib.hid hst'.below
  clear hmk' hst' hc hn hno hst hzz hzl H hstep
  go_enter Try.func33, Try.ntmps33
  go_wp2_with (refine wpList_row_copy manySeg rfl (.tmp 7) (.tmp 8) _ rfl HS.out 0 rfl rfl ao n c (rows.flatMap sgC) rfl HF.out (Nat.le_refl _) HNO.out (HC.out w2 HB.out) HO.out ?_; intro w3 h; simp only [List.set_cons_zero] at h; rw [List.drop_of_length_le (by rw [HZ.out]; exact Nat.le_refl _), List.append_nil] at h; have H3 := Lib.hid h; clear h)
  go_ret
  refine ⟨g, rfl, ?_⟩
  show Own.St B w0 w3 (ARow _ 3 _ rows.length _ :: Ps)
  rw [HN.out]
  exact H3.out
end
end Tba
end Go.Proofs.Ytlgfddpgmpabcaa

end
section
namespace Go.Own
open Go.RowKit
/-- what a call laid in new memory is one's own -/
theorem St.adoptNew {B : Nat} {w0 w w' : World} {Ps : List Asn} {Q : Asn} (H : St B w0 w Ps) (h : St w.heap.size w w' [Q]) : St B w0 w' (Q :: Ps) := by
  obtain ⟨S, ⟨S1, S2, hQ, _, _, hS⟩, hB⟩ := h.own
  exact H.adopt h.below Q hQ (fun k hk => hB k ((hS k).2 (.inl hk)))
end Go.Own
namespace Go.Proofs.Ytlgfddpgmpabcaa
open Go.RowKit Go.Own
namespace Tba
open Go.TabM Tab
section
variable {B : Nat} {w0 w : World} {Ps : List Asn} {p : Nat} {v : Value} {t : T} {N : Nat}
set_option maxHeartbeats 1600000 in
theorem new_any (H : Own.St B w0 w Ps) (n : Int) (hn : -9223372036854775808 ≤ n ∧ n ≤ 9223372036854775807) :
    Calls Try.prog 10 #[.int .i64 n] w fun e w' => if mayBe n = true then ∃ q v, e = .returned (.tuple #[ptr q, errT 0]) ∧ Own.St B w0 w' (AT q v (fresh n.toNat) :: Ps) else e = .returned (.tuple #[.pointer none, errT 1]) ∧ w' = w := by
  by_cases h1 : n < 0
  · have hm : mayBe n = false := by unfold TabM.mayBe; simp; omega
    simp only [hm, Bool.false_eq_true, if_false]
    have d1 : decide (n < 0) = true := decide_eq_true h1
    go_enter Try.func10, Try.ntmps10
    go_wp2
    go_ret2
    exact ⟨rfl, rfl⟩
  have d1 : decide (n < 0) = false := decide_eq_false h1
  by_cases h2 : 256 < n
  · have hm : mayBe n = false := by unfold TabM.mayBe; simp; omega
    simp only [hm, Bool.false_eq_true, if_false]
    have d2 : decide (256 < n) = true := decide_eq_true h2
    go_enter Try.func10, Try.ntmps10
    go_wp2
    go_ret2
    exact ⟨rfl, rfl⟩
  have d2 : decide (256 < n) = false := decide_eq_false h2
  have hm : mayBe n = true := by unfold TabM.mayBe; simp; omega
  simp only [hm, if_true]
  obtain ⟨k, rfl⟩ := Int.eq_ofNat_of_zero_le (show 0 ≤ n by omega)
  obtain ⟨w2, g, hmk, hst⟩ := St.manyMake (zs := sgC zS) manySeg zero_seg rfl H .i64 .i64 k (by omega) (by decide)
  rw [flat_fresh] at hst
  obtain ⟨q, hq⟩ : ∃ b, b = w2.heap.size := ⟨_, rfl⟩
  have hbx := hst.boxV 61 (tabC (.slice (some ⟨g, 0, none⟩) k k) (fresh k))
  rw [← hq] at hbx
  have H9 : Hid (Own.St B w0 (w2.alloc (.cells #[.slice (some ⟨g, 0, none⟩) k k, .int .u64 1] 61)) (AT q (.slice (some ⟨g, 0, none⟩) k k) (fresh k) :: Ps)) := by
    refine at_close ?_
    have e : RowG (.slice (some ⟨g, 0, none⟩) k k) (fresh k).rows = ARow 44 3 (.slice (some ⟨g, 0, none⟩) k k) k ((List.replicate k zS).flatMap sgC) := by
      show ARow _ 3 _ (List.replicate k zS).length _ = _
      rw [List.length_replicate]
      rfl
    rw [e]
    exact hbx
  clear hst hbx H hm h1 h2
  go_enter Try.func10, Try.ntmps10
  go_wp2
  rw [← hq]
  go_ret2
  exact ⟨q, _, rfl, H9.out⟩

set_option maxHeartbeats 1600000 in
theorem seal_any (H : Own.St B w0 w (AT p v t :: Ps)) (ok : Ok t N) : Calls Try.prog 19 #[ptr p] w fun e w' => e = .returned (errT (sealT t).2) ∧ Own.St B w0 w' (AT p v (sealT t).1 :: Ps) := by
  have CC := Lib.hid (cur_any H ok)
  have hlen := ok.len
  have HH := Lib.hid H
  clear H ok
  cases hc : cur t with
  | none =>
    have e1 : curV t = .tuple #[.int .i64 0, .bool false] := by unfold curV; rw [hc]; rfl
    have e2 : sealT t = (t, 2) := by unfold sealT; rw [hc]
    rw [e1] at CC
    rw [e2]
    clear hc e1 e2
    go_enter Try.func19, Try.ntmps19
    go_wp2_with (fail)
    refine CC.out.mono ?_
    clear CC
    rintro e w1 ⟨rfl, hg⟩
    have H1 := Lib.hid (HH.out.later hg)
    clear hg
    go_wp2
    go_ret
    exact ⟨rfl, H1.out⟩
  | some i =>
    obtain ⟨hi, hk⟩ := cur_some hc
    have e1 : curV t = .tuple #[.int .i64 (i : Int), .bool true] := by unfold curV; rw [hc]; rfl
    have e2 : sealT t = (⟨t.rows.set i { at_ t.rows i with kind := 2 }, t.next⟩, 0) := by unfold sealT; rw [hc]
    rw [e1] at CC
    rw [e2]
    clear hc e1 e2 hk
    go_enter Try.func19, Try.ntmps19
    go_wp2_with (fail)
    refine CC.out.mono ?_
    clear CC
    rintro e w1 ⟨rfl, hg⟩
    have h0 := at_open (HH.out.later hg)
    obtain ⟨ao, cap, rfl⟩ := h0.rowForm 1 rfl
    have c0 := (h0.cellV 0 rfl 0 rfl).1
    obtain ⟨g, cc, e, ha⟩ := rowG_at h0 1 rfl i hi
    simp only [Value.slice.injEq, true_and] at e
    obtain ⟨rfl, rfl⟩ := e
    obtain ⟨fz, put⟩ := rowG_set h0 1 rfl i 0 { at_ t.rows i with kind := 2 } (.int .u8 2) hi (by omega) rfl
    have a0 := ha.c0
    simp only [List.set_cons_zero, List.set_cons_succ, Nat.add_zero] at fz put
    obtain ⟨n, hn⟩ : ∃ n, n = t.rows.length := ⟨_, rfl⟩
    rw [← hn] at c0 hlen hi
    have P9 : Hid (Own.St B w0 (w1.setCell ⟨g, i * 3, none⟩ (.int .u8 2)) (AT p (.slice (some ⟨g, 0, none⟩) n cap) ⟨t.rows.set i { at_ t.rows i with kind := 2 }, t.next⟩ :: Ps)) := by
      refine at_close ?_
      rw [hn, show RowG (.slice (some ⟨g, 0, none⟩) t.rows.length cap) (T.rows ⟨t.rows.set i { at_ t.rows i with kind := 2 }, t.next⟩) = RowG (.slice (some ⟨g, 0, none⟩) t.rows.length cap) (t.rows.set i { at_ t.rows i with kind := 2 }) from rfl]
      exact put
    have HN := Lib.hid hn
    clear ha put hn hg h0 HH
    go_wp2
    go_ret
    refine ⟨rfl, ?_⟩
    have h := P9.out
    rw [HN.out] at h
    exact h
set_option maxHeartbeats 1600000 in
theorem rel_any (H : Own.St B w0 w (AT p v t :: Ps)) (ok : Ok t N) (seg : Int) (hs : -9223372036854775808 ≤ seg ∧ seg ≤ 9223372036854775807) : Calls Try.prog 20 #[ptr p, .int .i64 seg] w fun e w' => e = .returned (errT (relT t seg).2) ∧ Own.St B w0 w' (AT p v (relT t seg).1 :: Ps) := by
  have h0 := at_open H
  obtain ⟨ao, cap, rfl⟩ := h0.rowForm 1 rfl
  have H0 := Lib.hid h0
  have c0 := (H0.out.cellV 0 rfl 0 rfl).1
  have hlen := ok.len
  have HOK := Lib.hid ok
  have HH := Lib.hid H
  obtain ⟨n, hn⟩ : ∃ n, n = t.rows.length := ⟨_, rfl⟩
  rw [← hn] at c0 hlen ⊢
  have HN := Lib.hid hn
  clear H h0 ok
  by_cases h1 : seg < 0
  · have e2 : relT t seg = (t, 1) := by unfold relT; rw [if_pos (.inl h1)]
    rw [e2]
    have d1 : decide (seg < 0) = true := decide_eq_true h1
    clear e2 hn
    go_enter Try.func20, Try.ntmps20
    go_wp2
    go_ret
    exact ⟨rfl, by rw [HN.out]; exact HH.out⟩
  have d1 : decide (seg < 0) = false := decide_eq_false h1
  by_cases h2 : (n : Int) ≤ seg
  · have e2 : relT t seg = (t, 1) := by unfold relT; rw [if_pos (.inr (by rw [← hn]; exact h2))]
    rw [e2]
    have d2 : decide ((n : Int) ≤ seg) = true := decide_eq_true h2
    clear e2 hn
    go_enter Try.func20, Try.ntmps20
    go_wp2
    go_ret
    exact ⟨rfl, by rw [HN.out]; exact HH.out⟩
  have d2 : decide ((n : Int) ≤ seg) = false := decide_eq_false h2
  obtain ⟨i, rfl⟩ := Int.eq_ofNat_of_zero_le (show 0 ≤ seg by omega)
  have hi : i < t.rows.length := by rw [← hn]; omega
  have hin : i < n := by omega
  obtain ⟨g, cc, e, ha⟩ := rowG_at H0.out 1 rfl i hi
  simp only [Value.slice.injEq, true_and] at e
  obtain ⟨rfl, rfl⟩ := e
  obtain ⟨k, hk⟩ : ∃ k, k = (at_ t.rows i).kind := ⟨_, rfl⟩
  obtain ⟨sq, hsq⟩ : ∃ k, k = (at_ t.rows i).seq := ⟨_, rfl⟩
  obtain ⟨we, hwe⟩ : ∃ k, k = (at_ t.rows i).wear := ⟨_, rfl⟩
  have a0 := ha.c0
  have a1 := ha.c1
  rw [← hk] at a0
  rw [← hsq] at a1
  have hk2 : k ≤ 2 := by rw [hk]; exact HOK.out.kind _ (at_mem hi)
  by_cases h3 : k = 2
  · have e2 : relT t (i : Int) = (⟨t.rows.set i ⟨0, 0, we⟩, t.next⟩, 0) := by
      unfold relT
      rw [if_neg (by rw [← hn]; omega), if_neg (by rw [Int.toNat_natCast, ← hk, h3]; simp), Int.toNat_natCast, ← hwe]
    rw [e2]
    obtain ⟨fz, put⟩ := rowG_set H0.out 1 rfl i 0 ⟨0, sq, we⟩ (.int .u8 0) hi (by omega) (by rw [hsq, hwe]; rfl)
    simp only [List.set_cons_zero, List.set_cons_succ, Nat.add_zero] at fz put
    have hi2 : i < (t.rows.set i ⟨0, sq, we⟩).length := by simpa using hi
    have hat : at_ (t.rows.set i ⟨0, sq, we⟩) i = ⟨0, sq, we⟩ := at_eq (by rw [List.getElem?_set_self hi])
    have put1 : Own.St B w0 (w.setCell ⟨g, i * 3, none⟩ (.int .u8 0)) (AVals p 61 (tabC (.slice (some ⟨g, 0, none⟩) t.rows.length cap) t) :: RowG (.slice (some ⟨g, 0, none⟩) (t.rows.set i ⟨0, sq, we⟩).length cap) (t.rows.set i ⟨0, sq, we⟩) :: Ps) := by
      rw [List.length_set]; exact put
    obtain ⟨fz2, put2⟩ := rowG_set put1 1 rfl i 1 ⟨0, 0, we⟩ (.int .u64 0) hi2 (by omega) (by rw [hat]; rfl)
    have b1 : (w.setCell ⟨g, i * 3, none⟩ (.int .u8 0)).cell? ⟨g, i * 3 + 1, none⟩ = some (.int .u64 (sq : Int)) := by
      obtain ⟨g', c', e', ha'⟩ := rowG_at put1 1 rfl i hi2
      simp only [Value.slice.injEq, Option.some.injEq, Addr.mk.injEq, and_true, true_and] at e'
      have hc1 := ha'.c1
      rw [hat, ← e'.1] at hc1
      exact hc1
    have cq : (w.setCell ⟨g, i * 3, none⟩ (.int .u8 0)).cell? ⟨p, 0, none⟩ = some (.slice (some ⟨g, 0, none⟩) n cap) := by rw [hn]; exact (put1.cellV 0 rfl 0 rfl).1
    simp only [List.set_cons_zero, List.set_cons_succ, List.set_set, List.length_set] at put2
    have P9 : Hid (Own.St B w0 ((w.setCell ⟨g, i * 3, none⟩ (.int .u8 0)).setCell ⟨g, i * 3 + 1, none⟩ (.int .u64 0)) (AT p (.slice (some ⟨g, 0, none⟩) n cap) ⟨t.rows.set i ⟨0, 0, we⟩, t.next⟩ :: Ps)) := by
      refine at_close ?_
      rw [hn]
      exact put2
    subst h3
    clear e2 ha put put1 put2 hk hsq hwe hat hi2 hn HN HOK HH hi H0
    go_enter Try.func20, Try.ntmps20
    go_wp2
    go_ret
    exact ⟨rfl, P9.out⟩
  · have e2 : relT t (i : Int) = (t, 2) := by
      unfold relT
      rw [if_neg (by rw [← hn]; omega), if_pos (by rw [Int.toNat_natCast, ← hk]; exact h3)]
    rw [e2]
    have hb : ((k : Int) == 2) = false := by simp; omega
    have hb2 : ((k : Int) != 2) = true := by simp; omega
    clear e2 ha hk hsq hwe HOK hi hn H0
    go_enter Try.func20, Try.ntmps20
    go_wp2
    go_ret
    exact ⟨rfl, by rw [HN.out]; exact HH.out⟩
set_option maxHeartbeats 1600000 in
theorem rows_any (H : Own.St B w0 w (AT p v t :: Ps)) (ok : Ok t N) : Calls Try.prog 16 #[ptr p] w fun e w' => ∃ ao c, e = .returned (.slice ao t.rows.length c) ∧ Own.St B w0 w' (ARow 44 3 (.slice ao t.rows.length c) t.rows.length (t.rows.flatMap sgC) :: AT p v t :: Ps) ∧ Below w.heap.size w w' := by
  have h0 := at_open H
  obtain ⟨ao, cap, rfl⟩ := h0.rowForm 1 rfl
  have c0 := (h0.cellV 0 rfl 0 rfl).1
  have hno := (h0.rowLen 1 rfl).2.2.2
  have hnw := h0.rowNews 1 rfl
  have HH := Lib.hid H
  have CC := Lib.hid (copied_any (Own.St.start w) ao t.rows.length cap t.rows rfl ok.len (fun e => (hno e).1) (fun w' hw a ha j u hu => cellLater' (hnw a ha j u hu) hw))
  obtain ⟨n, hn⟩ : ∃ n, n = t.rows.length := ⟨_, rfl⟩
  rw [← hn] at c0 CC ⊢
  have HN := Lib.hid hn
  clear H h0 hno hnw hn ok
  go_enter Try.func16, Try.ntmps16
  go_wp2_with (fail)
  refine CC.out.mono ?_
  clear CC
  rintro e w1 ⟨g, rfl, h⟩
  have HB := Lib.hid h.below
  have H1 := Lib.hid (HH.out.adoptNew h)
  clear h
  go_wp2
  go_ret
  refine ⟨_, _, rfl, ?_, HB.out⟩
  have h := H1.out
  have e : RowG (.slice (some ⟨g, 0, none⟩) n n) t.rows = ARow 44 3 (.slice (some ⟨g, 0, none⟩) n n) n (t.rows.flatMap sgC) := by rw [HN.out]
  rw [e, ← HN.out] at h
  exact h
end
theorem nilOpen (w : World) : Calls Try.prog 18 #[.pointer none] w fun e w' => e = .returned (opV (0, 0, 2)) ∧ Below w.heap.size w w' := by
  go_enter Try.func18, Try.ntmps18
  go_wp2
  go_ret3
  exact ⟨rfl, Below.refl _ _⟩
theorem nilAll (k : Nat) (w : World) : Calls Try.prog 36 #[.pointer none, .int .u8 (k : Int)] w fun e w' => e = .returned (.slice none 0 0) ∧ w' = w := by
  go_enter Try.func36, Try.ntmps36
  go_wp2
  go_ret
  exact ⟨rfl, rfl⟩
theorem nilCur (w : World) : Calls Try.prog 23 #[.pointer none] w fun e w' => e = .returned (.tuple #[.int .i64 0, .bool false]) ∧ w' = w := by
  go_enter Try.func23, Try.ntmps23
  go_wp2_with (fail)
  refine (nilAll 1 w).mono ?_
  rintro e w' ⟨rfl, rfl⟩
  go_wp2
  go_ret2
  exact ⟨rfl, rfl⟩
theorem nilSeal (w : World) : Calls Try.prog 19 #[.pointer none] w fun e w' => e = .returned (errT 2) ∧ Below w.heap.size w w' := by
  go_enter Try.func19, Try.ntmps19
  go_wp2_with (fail)
  refine (nilCur w).mono ?_
  rintro e w' ⟨rfl, rfl⟩
  go_wp2
  go_ret
  exact ⟨rfl, Below.refl _ _⟩
theorem nilRel (seg : Int) (w : World) : Calls Try.prog 20 #[.pointer none, .int .i64 seg] w fun e w' => e = .returned (errT 2) ∧ Below w.heap.size w w' := by
  go_enter Try.func20, Try.ntmps20
  go_wp2
  go_ret
  exact ⟨rfl, Below.refl _ _⟩
theorem nilFree (w : World) : Calls Try.prog 24 #[.pointer none] w fun e w' => e = .returned (iV 0) ∧ Below w.heap.size w w' := by
  go_enter Try.func24, Try.ntmps24
  go_wp2_with (fail)
  refine (nilAll 0 w).mono ?_
  rintro e w' ⟨rfl, rfl⟩
  go_wp2
  go_ret
  exact ⟨rfl, Below.refl _ _⟩
theorem nilRows (w : World) : Calls Try.prog 16 #[.pointer none] w fun e w' => ∃ ao cap, e = .returned (.slice ao 0 cap) ∧ Below w.heap.size w w' := by
  go_enter Try.func16, Try.ntmps16
  go_wp2
  go_ret
  exact ⟨none, 0, rfl, Below.refl _ _⟩
theorem nilNext (w : World) : Calls Try.prog 17 #[.pointer none] w fun e w' => e = .returned (.int .u64 0) ∧ Below w.heap.size w w' := by
  go_enter Try.func17, Try.ntmps17
  go_wp2
  go_ret
  exact ⟨rfl, Below.refl _ _⟩
end Tba
end Go.Proofs.Ytlgfddpgmpabcaa

end
section
namespace Go.Proofs.Ytlgfddpgmpabcaa
open Go.RowKit Go.Own
namespace Srt
abbrev iV (n : Nat) : Value := .int .i64 (n : Int)
theorem set_cells (l : List Nat) (i v : Nat) : (l.map iV).set i (iV v) = (l.set i v).map iV := by rw [List.map_set]
/-- what is asked of a comparison, called with two elements of the row: it answers, and turns nothing that was there -/
structure Cmp (f : FuncId) (bs cb : Array Value) (cf : Nat → Nat → Int) (Ok : Nat → Prop) (B : Nat) (w0 : World) (Ts : List Asn) : Prop where
  ent : ∀ (args : Array Value) w, (callFunc f args).run Try.prog w = .ok (.enter f args) w
  ask : ∀ {w : World}, Own.St B w0 w Ts → ∀ x y, Ok x → Ok y → Calls Try.prog f (bs ++ #[iV x, iV y] ++ cb) w fun e w' => e = .returned (.int .i64 (cf x y)) ∧ Below w.heap.size w w'
  low : ∀ x y, -2 ≤ cf x y ∧ cf x y ≤ 2
abbrev fvOf (f : FuncId) (bs cb : Array Value) : Value := .func (.func f) bs cb
def ltc (cf : Nat → Nat → Int) (x y : Nat) : Bool := decide (cf x y < 0)
/-- a row of n numbers at g, behind it what else is there -/
structure Sd (Ok : Nat → Prop) (B : Nat) (w0 : World) (Ts : List Asn) (g n c : Nat) (Rs : List Asn) (w : World) (d : Array Nat) : Prop where
  st : Own.St B w0 w (ARow 3 1 (.slice (some ⟨g, 0, none⟩) n c) n (d.toList.map iV) :: (Rs ++ Ts))
  size : d.size = n
  ok : ∀ i, i < n → Ok d[i]!
section
variable {Ok : Nat → Prop} {B : Nat} {w0 w : World} {Ts Rs : List Asn} {g n c : Nat} {d : Array Nat}
theorem at_bang {d : Array Nat} {i : Nat} (h : i < d.size) : (d.toList.map iV)[i]? = some (iV d[i]!) := by
  rw [List.getElem?_map, Array.getElem?_toList, Array.getElem?_eq_getElem h, getElem!_pos d i h]; rfl
theorem Sd.cell (S : Sd Ok B w0 Ts g n c Rs w d) {i : Nat} (hi : i < n) : w.cell? ⟨g, i, none⟩ = some (iV d[i]!) := by
  obtain ⟨g', e, ⟨u, hu, hc⟩, _, _⟩ := S.st.rowAt 0 rfl i (by omega)
  cases e
  rw [at_bang (by rw [S.size]; exact hi)] at hu
  cases hu
  exact hc
theorem Sd.froz (S : Sd Ok B w0 Ts g n c Rs w d) {i : Nat} (hi : i < n) : w.frozen? ⟨g, i, none⟩ = false := by
  obtain ⟨g', e, _, hf, _⟩ := S.st.rowAt 0 rfl i (by omega)
  cases e
  exact hf
theorem Sd.later (S : Sd Ok B w0 Ts g n c Rs w d) {w' : World} (h : Below w.heap.size w w') : Sd Ok B w0 Ts g n c Rs w' d := ⟨S.st.later h, S.size, S.ok⟩
theorem Sd.drew (S : Sd Ok B w0 Ts g n c Rs w d) : Sd Ok B w0 Ts g n c Rs w.drew d := ⟨S.st.drew, S.size, S.ok⟩
theorem Sd.rest (S : Sd Ok B w0 Ts g n c Rs w d) : Own.St B w0 w Ts := by
  have h := S.st.drop (Rs.length + 1)
  simpa using h
theorem Sd.put (S : Sd Ok B w0 Ts g n c Rs w d) {i : Nat} (hi : i < n) (v : Nat) (hv : Ok v) : Sd Ok B w0 Ts g n c Rs (w.setCell ⟨g, i, none⟩ (iV v)) (d.setIfInBounds i v) := by
  obtain ⟨g', e, _, _, put⟩ := S.st.rowAt 0 rfl i (by omega)
  cases e
  have h := put (iV v)
  simp only [List.set_cons_zero] at h
  rw [set_cells] at h
  refine ⟨?_, by simpa using S.size, ?_⟩
  · rw [Array.toList_setIfInBounds]; exact h
  · intro k hk
    have hks : k < d.size := by rw [S.size]; exact hk
    rw [getElem!_pos _ k (by simpa using hks), Array.getElem_setIfInBounds hks]
    split
    · exact hv
    · rw [← getElem!_pos d k hks]; exact S.ok k hk
theorem Sd.swap (S : Sd Ok B w0 Ts g n c Rs w d) {i j : Nat} (hi : i < n) (hj : j < n) :
    Sd Ok B w0 Ts g n c Rs ((w.setCell ⟨g, i, none⟩ (iV d[j]!)).setCell ⟨g, j, none⟩ (iV d[i]!)) (Sort.swp d i j) :=
  (S.put hi d[j]! (S.ok j hj)).put hj d[i]! (S.ok i hi)
theorem Sd.swap2 (S : Sd Ok B w0 Ts g n c Rs w d) {i j : Nat} (hi : i < n) (hj : j < n) : ∃ u, (w.setCell ⟨g, i, none⟩ (iV d[j]!)).cell? ⟨g, j, none⟩ = some u :=
  ⟨_, (S.put hi d[j]! (S.ok j hj)).cell hj⟩
end
section
variable {o : Oper} {x y : Tmp} {X Y : Operand} {w : World}
theorem idx_i (ho : o.op = .indexAddr 57 X Y) {g n c i : Nat} (hi : i < n) (ρ : Operand → Value) (w : World) (h0 : ρ X = .slice (some ⟨g, 0, none⟩) n c) (h1 : ρ Y = .int .i64 (i : Int)) : (execOp ρ o).run Try.prog w = .ok (.value (.pointer (some ⟨g, i, none⟩))) w := by
  have hi' : (i : Int) < (n : Int) := by omega
  simp [execOp, ho, h0, h1, go_sem, hi, hi', add_of]
theorem load_i (ho : o.op = .load 3 X) {a : Addr} {v : Value} (ρ : Operand → Value) {w : World} (hc : w.cell? a = some v) (h0 : ρ X = .pointer (some a)) : (execOp ρ o).run Try.prog w = .ok (.value v) w := by
  simp [execOp, ho, h0, go_sem, hc]
theorem bin_add (ho : o.op = .binOp .add 3 X Y 3) (k j : Nat) {q : Nat} (hq : q = k + j) (hb : q ≤ 4611686018427387904) (ρ : Operand → Value) (w : World) (h0 : ρ X = .int .i64 (k : Int)) (h1 : ρ Y = .int .i64 (j : Int)) : (execOp ρ o).run Try.prog w = .ok (.value (.int .i64 (q : Int))) w := by
  have e : IntKind.i64.wrap ((k : Int) + (j : Int)) = (q : Int) := by rw [IntKind.wrap_i64]; omega
  simp only [execOp, ho, h0, h1]
  generalize (k : Int) = m at e
  generalize (j : Int) = m2 at e
  simp [go_sem, e]
theorem bin_sub (ho : o.op = .binOp .sub 3 X Y 3) (k j : Nat) {q : Nat} (hq : k = q + j) (hb : k ≤ 4611686018427387904) (ρ : Operand → Value) (w : World) (h0 : ρ X = .int .i64 (k : Int)) (h1 : ρ Y = .int .i64 (j : Int)) : (execOp ρ o).run Try.prog w = .ok (.value (.int .i64 (q : Int))) w := by
  have e : IntKind.i64.wrap ((k : Int) - (j : Int)) = (q : Int) := by rw [IntKind.wrap_i64]; omega
  simp only [execOp, ho, h0, h1]
  generalize (k : Int) = m at e
  generalize (j : Int) = m2 at e
  simp [go_sem, e]
theorem lss_i (ho : o.op = .binOp .lss 3 X Y 3) {a b : Int} {t : Bool} (ht : decide (a < b) = t) (ρ : Operand → Value) (w : World) (h0 : ρ X = .int .i64 a) (h1 : ρ Y = .int .i64 b) : (execOp ρ o).run Try.prog w = .ok (.value (.bool t)) w := by
  subst ht
  simp [execOp, ho, h0, h1, go_sem]
theorem gtr_i (ho : o.op = .binOp .gtr 3 X Y 3) {a b : Int} {t : Bool} (ht : decide (b < a) = t) (ρ : Operand → Value) (w : World) (h0 : ρ X = .int .i64 a) (h1 : ρ Y = .int .i64 b) : (execOp ρ o).run Try.prog w = .ok (.value (.bool t)) w := by
  subst ht
  simp [execOp, ho, h0, h1, go_sem]
theorem leq_i (ho : o.op = .binOp .leq 3 X Y 3) {a b : Int} {t : Bool} (ht : decide (a ≤ b) = t) (ρ : Operand → Value) (w : World) (h0 : ρ X = .int .i64 a) (h1 : ρ Y = .int .i64 b) : (execOp ρ o).run Try.prog w = .ok (.value (.bool t)) w := by
  subst ht
  simp [execOp, ho, h0, h1, go_sem]
theorem not_b (ho : o.op = .unOp .not 4 X) {t s : Bool} (hs : (!t) = s) (ρ : Operand → Value) (w : World) (h0 : ρ X = .bool t) : (execOp ρ o).run Try.prog w = .ok (.value (.bool s)) w := by
  subst hs
  simp [execOp, ho, h0, go_sem]
/-- a function value is called -/
theorem enter_val {f : FuncId} {bs cb : Array Value} {xs : List Operand} {ts : Array TypeId} (ho : o.op = .call { callee := .value X, args := xs.toArray, argTypes := ts }) (ρ : Operand → Value) (hρ : ρ X = fvOf f bs cb)
    (hfn : ∀ (args : Array Value) w, (callFunc f args).run Try.prog w = .ok (.enter f args) w) : (execOp ρ o).run Try.prog w = .ok (.enter f (bs ++ (xs.map ρ).toArray ++ cb)) w := by
  simp [execOp, ho, resolve, hρ, Deferred.ofValue, invoke, go_sem, hfn]
end
section
variable {C : World → Prop} {Q : Act → World → Prop} {ds : List Deferred} {rest : List Oper} {I : Lx} {fs : List Value} {ops : Array Oper} {o : Oper}
theorem wpL_val (v : Value) {X : Operand} {f : FuncId} {bs cb : Array Value} {xs : List Operand} {ts : Array TypeId} (args : List Value) (hX : ev fs X = fvOf f bs cb) (hKX : known I X = true) (ho : o.op = .call { callee := .value X, args := xs.toArray, argTypes := ts }) (ha : xs.map (ev fs) = args) (hk : xs.all (known I) = true) (hg : guardKnown ops o I = true) (hw : wantedL ops fs o = true)
    (hfn : ∀ (args : Array Value) w, (callFunc f args).run Try.prog w = .ok (.enter f args) w) (hc : ∀ w, C w → Calls Try.prog f (bs ++ args.toArray ++ cb) w fun e w' => e = .returned v ∧ Below w.heap.size w w') (k : wpL Try.prog ops C Q ds rest I (setL fs o.dst v)) : wpL Try.prog ops C Q ds (o :: rest) I fs :=
  wpL_call v (bs ++ args.toArray ++ cb) (by simp [notSelect, ho]) (by rw [ho]; simp [Op.operands, Call.operands, known] at *; exact ⟨hKX, hk⟩) hg hw (fun w => by rw [enter_val ho _ hX hfn, ha]) hc k
end
section
variable {Ok : Nat → Prop} {B : Nat} {w0 w : World} {Ts Rs : List Asn} {g n c : Nat} {d : Array Nat}
set_option maxHeartbeats 4000000 in
theorem reverse_any (S : Sd Ok B w0 Ts g n c Rs w d) (a b : Nat) (hab : a ≤ b) (hb : b ≤ n) (hn : n ≤ 4611686018427387904) (fv : Value) :
    Calls Try.prog 56 #[.slice (some ⟨g, 0, none⟩) n c, .int .i64 (a : Int), .int .i64 (b : Int), fv] w fun e w' => e = .returned (.tuple #[]) ∧ Sd Ok B w0 Ts g n c Rs w' (Sort.reverseRange d a b) := by
  have HS := Lib.hid S
  clear S
  go_enter Try.func56, Try.ntmps56
  go_wp2
  go_loopw [8, 9] (fun v8 v9 wr => ∃ (i jn : Nat) (jz : Int) (dk : Array Nat), v8 = .int .i64 (i : Int) ∧ v9 = .int .i64 jz ∧ ((i : Int) < jz → jz = (jn : Int) ∧ jn < n) ∧ (¬ (i : Int) < jz → ¬ i < jn) ∧ Sd Ok B w0 Ts g n c Rs wr dk ∧ Sort.reverseLoop i jn dk = Sort.reverseLoop a (b - 1) d) (fun v8 v9 _ => (intOf v9 - intOf v8).toNat)
  case atStart => exact ⟨a, b - 1, (b : Int) - 1, d, rfl, by go_num, fun h => ⟨by omega, by omega⟩, fun h => by omega, HS.out, rfl⟩
  case round =>
    obtain ⟨i, jn, jz, dk, rfl, rfl, h1, h2, hs, heq⟩ := hrel
    have HK := Lib.hid hs
    have HE := Lib.hid heq
    clear hs heq HS
    by_cases hlt : (i : Int) < jz
    · obtain ⟨rfl, hjn⟩ := h1 hlt
      have hij : i < jn := by omega
      have hin : i < n := by omega
      clear h1 h2
      obtain ⟨xi, hxi⟩ : ∃ x, x = dk[i]! := ⟨_, rfl⟩
      obtain ⟨xj, hxj⟩ : ∃ x, x = dk[jn]! := ⟨_, rfl⟩
      have H2 := Lib.hid (HK.out.swap hin hjn).drew
      have c1 := HK.out.cell hin
      have c2 := HK.out.cell hjn
      have f1 := HK.out.froz hin
      have f2 := HK.out.froz hjn
      obtain ⟨u, c3⟩ := HK.out.swap2 hin hjn
      have HE2 : Hid (Sort.reverseLoop (i + 1) (jn - 1) (Sort.swp dk i jn) = Sort.reverseLoop a (b - 1) d) := by
        show _ = _
        rw [← HE.out]
        conv => rhs; rw [Sort.reverseLoop, if_pos hij]
      rw [← hxi, ← hxj] at H2
      rw [← hxi] at c1
      rw [← hxj] at c2 c3
      clear hxi hxj HE
      go_wp2_with (fail)
      go_region
      go_wp2
      go_roundw
      case rel => exact ⟨i + 1, jn - 1, (jn : Int) - 1, Sort.swp dk i jn, by go_num, by go_num, fun h => ⟨by omega, by omega⟩, fun h => by omega, H2.out, HE2.out⟩
      case measure => simp [intOf]; omega
    · have hnot := h2 hlt
      have HE2 : Hid (Sort.reverseRange d a b = dk) := by
        show _ = _
        unfold Sort.reverseRange
        rw [← HE.out, Sort.reverseLoop, if_neg hnot]
      clear h1 h2 HE
      go_wp2
      go_end0
      rw [HE2.out]
      exact ⟨rfl, HK.out⟩
end
end Srt
end Go.Proofs.Ytlgfddpgmpabcaa

end
section
namespace Go.Proofs.Ytlgfddpgmpabcaa
open Go.RowKit Go.Own
namespace Srt
section
variable {f : FuncId} {bs cb : Array Value} {cf : Nat → Nat → Int} {Ok : Nat → Prop} {B : Nat} {w0 w : World} {Ts Rs : List Asn} {g n c : Nat} {d : Array Nat}
/-- two elements of the row are compared, in any later world -/
theorem ask_at (K : Cmp f bs cb cf Ok B w0 Ts) (S : Sd Ok B w0 Ts g n c Rs w d) {i j : Nat} (hi : i < n) (hj : j < n) :
    ∀ wx, Below w.heap.size w wx → Calls Try.prog f (bs ++ [iV d[i]!, iV d[j]!].toArray ++ cb) wx fun e w' => e = .returned (.int .i64 (cf d[i]! d[j]!)) ∧ Below wx.heap.size wx w' :=
  fun _ hw => K.ask (S.later hw).rest _ _ (S.ok i hi) (S.ok j hj)
theorem cell_at (S : Sd Ok B w0 Ts g n c Rs w d) {i : Nat} (hi : i < n) : ∀ wx, Below w.heap.size w wx → wx.cell? ⟨g, i, none⟩ = some (iV d[i]!) := fun _ hw => (S.later hw).cell hi
theorem ltc_t {cf : Nat → Nat → Int} {x y : Nat} {t : Bool} (h : ltc cf x y = t) {z : Int} (hz : z = cf x y) : decide (z < 0) = t := by rw [hz]; exact h
set_option maxHeartbeats 4000000 in
theorem insertion_any (K : Cmp f bs cb cf Ok B w0 Ts) (S : Sd Ok B w0 Ts g n c Rs w d) (a b : Nat) (hab : a ≤ b) (hb : b ≤ n) (hn : n ≤ 4611686018427387903) :
    Calls Try.prog 52 #[.slice (some ⟨g, 0, none⟩) n c, .int .i64 (a : Int), .int .i64 (b : Int), fvOf f bs cb] w fun e w' => e = .returned (.tuple #[]) ∧ Sd Ok B w0 Ts g n c Rs w' (Sort.insertionSort (ltc cf) d a b) := by
  have HS := Lib.hid S
  have ENT := Lib.hid K.ent
  obtain ⟨R, hR⟩ : ∃ R, R = Sort.insertionSort (ltc cf) d a b := ⟨_, rfl⟩
  rw [← hR]
  have HR0 : Hid (Sort.insOuter (ltc cf) a b (a + 1) d = R) := hR.symm
  clear S hR
  go_enter Try.func52, Try.ntmps52
  go_wp2
  go_loopw [8] (fun v8 wr => ∃ (i : Nat) (dk : Array Nat), v8 = .int .i64 (i : Int) ∧ a + 1 ≤ i ∧ i ≤ b + 1 ∧ Sd Ok B w0 Ts g n c Rs wr dk ∧ Sort.insOuter (ltc cf) a b i dk = R) (fun v8 _ => b + 1 - (intOf v8).toNat)
  case atStart => exact ⟨a + 1, d, by go_num, Nat.le_refl _, by omega, HS.out, HR0.out⟩
  case round =>
    obtain ⟨i, dk, rfl, hai, hib, hs, heq⟩ := hrel
    have HK := Lib.hid hs
    have HE := Lib.hid heq
    clear hs heq HS HR0
    by_cases hi : (i : Int) < (b : Int)
    · have hib2 : i < b := by omega
      have hin : i < n := by omega
      have HE1 : Hid (Sort.insOuter (ltc cf) a b (i + 1) (Sort.insInner (ltc cf) a i dk) = R) := by
        show _ = _
        rw [← HE.out]
        conv => rhs; rw [Sort.insOuter, if_pos hib2]
      obtain ⟨X, hX⟩ : ∃ X, X = Sort.insInner (ltc cf) a i dk := ⟨_, rfl⟩
      rw [← hX] at HE1
      have HX := Lib.hid hX.symm
      clear HE hX
      go_wp2
      go_loopw [9] (fun v9 ws => ∃ (j1 : Nat) (dk : Array Nat), v9 = .int .i64 (j1 : Int) ∧ j1 ≤ i ∧ Sd Ok B w0 Ts g n c Rs ws dk ∧ Sort.insInner (ltc cf) a j1 dk = X) (fun v9 _ => (intOf v9).toNat)
      case atStart => exact ⟨i, dk, rfl, Nat.le_refl _, HK.out, HX.out⟩
      case round =>
        obtain ⟨j1, dk, rfl, hji, hs, heq⟩ := hrel
        have HK := Lib.hid hs
        have HE := Lib.hid heq
        clear hs heq HX
        have hj1n : j1 < n := by omega
        by_cases hgt0 : a < j1
        · obtain ⟨k, hj1⟩ : ∃ k, j1 = k + 1 := ⟨j1 - 1, by omega⟩
          have hkn : k < n := by omega
          have hgt : decide ((a : Int) < (j1 : Int)) = true := decide_eq_true (by omega)
          obtain ⟨x, hx⟩ : ∃ x, x = dk[j1]! := ⟨_, rfl⟩
          obtain ⟨y, hy⟩ : ∃ y, y = dk[k]! := ⟨_, rfl⟩
          obtain ⟨z, hz⟩ : ∃ z, z = cf x y := ⟨_, rfl⟩
          have ASK := Lib.hid (ask_at K HK.out hj1n hkn)
          have CX := Lib.hid (cell_at HK.out hj1n)
          have CY := Lib.hid (cell_at HK.out hkn)
          rw [← hx, ← hy, ← hz] at ASK
          rw [← hx] at CX
          rw [← hy] at CY
          have HIN : Hid (X = if ltc cf x y = true then Sort.insInner (ltc cf) a k (Sort.swp dk j1 k) else dk) := by
            show _ = _
            rw [← HE.out, hj1, Sort.insInner, ← hj1, ← hx, ← hy]
            simp [hgt0]
          by_cases hlt : ltc cf x y = true
          · have HT := Lib.hid (ltc_t hlt hz)
            have HE2 : Hid (Sort.insInner (ltc cf) a k (Sort.swp dk j1 k) = X) := by show _ = _; rw [HIN.out, if_pos hlt]
            clear HIN hlt hz hx hy HE
            have HJ := Lib.hid hj1
            have hsub : IntKind.i64.wrap ((j1 : Int) - 1) = (k : Int) := by rw [IntKind.wrap_i64]; omega
            go_wp2_with (fail)
            refine wp_lax_list (by kernel_rfl) (by kernel_rfl) (by kernel_rfl) ?_
            refine wpL_move (.int .i64 (j1 : Int)) rfl (by kernel_rfl) (by kernel_rfl) (by kernel_rfl) (by kernel_rfl) ?_
            refine wpL_move (.int .i64 (a : Int)) rfl (by kernel_rfl) (by kernel_rfl) (by kernel_rfl) (by kernel_rfl) ?_
            refine wpL_run2 (x := .tmp 18) (y := .tmp 19) (.int .i64 (j1 : Int)) (.int .i64 (a : Int)) (.bool true) (by kernel_rfl) (by kernel_rfl) (by kernel_rfl) (by kernel_rfl) (by kernel_rfl) (by kernel_rfl) (fun wx ρ hwx h0 h1 hc => gtr_i rfl hgt ρ wx h0 h1) ?_
            refine wpL_move (.bool true) rfl (by kernel_rfl) (by kernel_rfl) (by kernel_rfl) (by kernel_rfl) ?_
            refine wpL_move (fvOf f bs cb) rfl (by kernel_rfl) (by kernel_rfl) (by kernel_rfl) (by kernel_rfl) ?_
            refine wpL_move (.slice (some ⟨g, 0, none⟩) n c) rfl (by kernel_rfl) (by kernel_rfl) (by kernel_rfl) (by kernel_rfl) ?_
            refine wpL_move (.int .i64 (j1 : Int)) rfl (by kernel_rfl) (by kernel_rfl) (by kernel_rfl) (by kernel_rfl) ?_
            refine wpL_run2 (x := .tmp 23) (y := .tmp 24) (.slice (some ⟨g, 0, none⟩) n c) (.int .i64 (j1 : Int)) (.pointer (some ⟨g, j1, none⟩)) (by kernel_rfl) (by kernel_rfl) (by kernel_rfl) (by kernel_rfl) (by kernel_rfl) (by kernel_rfl) (fun wx ρ hwx h0 h1 hc => idx_i rfl hj1n ρ wx h0 h1) ?_
            refine wpL_run1 (x := .tmp 25) (.pointer (some ⟨g, j1, none⟩)) (iV x) (by kernel_rfl) (by kernel_rfl) (by kernel_rfl) (by kernel_rfl) (by kernel_rfl) (fun wx ρ hwx h0 hc => load_i rfl ρ (CX.out wx hwx) h0) ?_
            refine wpL_move (.slice (some ⟨g, 0, none⟩) n c) rfl (by kernel_rfl) (by kernel_rfl) (by kernel_rfl) (by kernel_rfl) ?_
            refine wpL_move (.int .i64 (j1 : Int)) rfl (by kernel_rfl) (by kernel_rfl) (by kernel_rfl) (by kernel_rfl) ?_
            refine wpL_run1 (x := .tmp 28) (.int .i64 (j1 : Int)) (.int .i64 (k : Int)) (by kernel_rfl) (by kernel_rfl) (by kernel_rfl) (by kernel_rfl) (by kernel_rfl) (fun wx ρ hwx h0 hc => bin_sub rfl _ 1 hj1 (by omega) ρ wx h0 (hc _)) ?_
            refine wpL_run2 (x := .tmp 27) (y := .tmp 29) (.slice (some ⟨g, 0, none⟩) n c) (.int .i64 (k : Int)) (.pointer (some ⟨g, k, none⟩)) (by kernel_rfl) (by kernel_rfl) (by kernel_rfl) (by kernel_rfl) (by kernel_rfl) (by kernel_rfl) (fun wx ρ hwx h0 h1 hc => idx_i rfl hkn ρ wx h0 h1) ?_
            refine wpL_run1 (x := .tmp 30) (.pointer (some ⟨g, k, none⟩)) (iV y) (by kernel_rfl) (by kernel_rfl) (by kernel_rfl) (by kernel_rfl) (by kernel_rfl) (fun wx ρ hwx h0 hc => load_i rfl ρ (CY.out wx hwx) h0) ?_
            refine wpL_val (.int .i64 z) [iV x, iV y] (by kernel_rfl) (by kernel_rfl) rfl (by kernel_rfl) (by kernel_rfl) (by kernel_rfl) (by kernel_rfl) ENT.out (fun wx hwx => ASK.out wx hwx) ?_
            refine wpL_run1 (x := .tmp 32) (.int .i64 z) (.bool true) (by kernel_rfl) (by kernel_rfl) (by kernel_rfl) (by kernel_rfl) (by kernel_rfl) (fun wx ρ hwx h0 hc => lss_i rfl HT.out ρ wx h0 (hc _)) ?_
            refine wpL_run2 (x := .tmp 21) (y := .tmp 33) (.bool true) (.bool true) (.bool true) (by kernel_rfl) (by kernel_rfl) (by kernel_rfl) (by kernel_rfl) (by kernel_rfl) (by kernel_rfl) (fun wx ρ hwx h0 h1 hc => by simp [go_sem, h0, h1]) ?_
            refine wpL_end (by kernel_rfl) (fun w1 hw1 => ?_)
            simp only [FinL, setL, List.set_cons_zero, List.set_cons_succ]
            have H1 := Lib.hid (HK.out.later hw1)
            obtain ⟨xi, hxi⟩ : ∃ x, x = dk[j1]! := ⟨_, rfl⟩
            obtain ⟨xj, hxj⟩ : ∃ x, x = dk[k]! := ⟨_, rfl⟩
            have H2 := Lib.hid (H1.out.swap hj1n hkn).drew
            have k1 := H1.out.cell hj1n
            have k2 := H1.out.cell hkn
            have f1 := H1.out.froz hj1n
            have f2 := H1.out.froz hkn
            obtain ⟨u, k3⟩ := H1.out.swap2 hj1n hkn
            rw [← hxi, ← hxj] at H2
            rw [← hxi] at k1
            rw [← hxj] at k2 k3
            clear hxi hxj
            clear hj1 ASK CX CY
            go_wp2_with (fail)
            go_region
            go_wp2
            go_roundw
            case rel => exact ⟨k, Sort.swp dk j1 k, by go_num, by have := HJ.out; omega, H2.out, HE2.out⟩
            case measure => have := HJ.out; simp [intOf]; omega
          · have hlf : ltc cf x y = false := by simpa using hlt
            have HT := Lib.hid (ltc_t hlf hz)
            have HE2 : Hid (X = dk) := by show _ = _; rw [HIN.out, if_neg hlt]
            clear HIN hlt hlf hz hx hy HE
            go_wp2_with (fail)
            refine wp_lax_list (by kernel_rfl) (by kernel_rfl) (by kernel_rfl) ?_
            refine wpL_move (.int .i64 (j1 : Int)) rfl (by kernel_rfl) (by kernel_rfl) (by kernel_rfl) (by kernel_rfl) ?_
            refine wpL_move (.int .i64 (a : Int)) rfl (by kernel_rfl) (by kernel_rfl) (by kernel_rfl) (by kernel_rfl) ?_
            refine wpL_run2 (x := .tmp 18) (y := .tmp 19) (.int .i64 (j1 : Int)) (.int .i64 (a : Int)) (.bool true) (by kernel_rfl) (by kernel_rfl) (by kernel_rfl) (by kernel_rfl) (by kernel_rfl) (by kernel_rfl) (fun wx ρ hwx h0 h1 hc => gtr_i rfl hgt ρ wx h0 h1) ?_
            refine wpL_move (.bool true) rfl (by kernel_rfl) (by kernel_rfl) (by kernel_rfl) (by kernel_rfl) ?_
            refine wpL_move (fvOf f bs cb) rfl (by kernel_rfl) (by kernel_rfl) (by kernel_rfl) (by kernel_rfl) ?_
            refine wpL_move (.slice (some ⟨g, 0, none⟩) n c) rfl (by kernel_rfl) (by kernel_rfl) (by kernel_rfl) (by kernel_rfl) ?_
            refine wpL_move (.int .i64 (j1 : Int)) rfl (by kernel_rfl) (by kernel_rfl) (by kernel_rfl) (by kernel_rfl) ?_
            refine wpL_run2 (x := .tmp 23) (y := .tmp 24) (.slice (some ⟨g, 0, none⟩) n c) (.int .i64 (j1 : Int)) (.pointer (some ⟨g, j1, none⟩)) (by kernel_rfl) (by kernel_rfl) (by kernel_rfl) (by kernel_rfl) (by kernel_rfl) (by kernel_rfl) (fun wx ρ hwx h0 h1 hc => idx_i rfl hj1n ρ wx h0 h1) ?_
            refine wpL_run1 (x := .tmp 25) (.pointer (some ⟨g, j1, none⟩)) (iV x) (by kernel_rfl) (by kernel_rfl) (by kernel_rfl) (by kernel_rfl) (by kernel_rfl) (fun wx ρ hwx h0 hc => load_i rfl ρ (CX.out wx hwx) h0) ?_
            refine wpL_move (.slice (some ⟨g, 0, none⟩) n c) rfl (by kernel_rfl) (by kernel_rfl) (by kernel_rfl) (by kernel_rfl) ?_
            refine wpL_move (.int .i64 (j1 : Int)) rfl (by kernel_rfl) (by kernel_rfl) (by kernel_rfl) (by kernel_rfl) ?_
            refine wpL_run1 (x := .tmp 28) (.int .i64 (j1 : Int)) (.int .i64 (k : Int)) (by kernel_rfl) (by kernel_rfl) (by kernel_rfl) (by kernel_rfl) (by kernel_rfl) (fun wx ρ hwx h0 hc => bin_sub rfl _ 1 hj1 (by omega) ρ wx h0 (hc _)) ?_
            refine wpL_run2 (x := .tmp 27) (y := .tmp 29) (.slice (some ⟨g, 0, none⟩) n c) (.int .i64 (k : Int)) (.pointer (some ⟨g, k, none⟩)) (by kernel_rfl) (by kernel_rfl) (by kernel_rfl) (by kernel_rfl) (by kernel_rfl) (by kernel_rfl) (fun wx ρ hwx h0 h1 hc => idx_i rfl hkn ρ wx h0 h1) ?_
            refine wpL_run1 (x := .tmp 30) (.pointer (some ⟨g, k, none⟩)) (iV y) (by kernel_rfl) (by kernel_rfl) (by kernel_rfl) (by kernel_rfl) (by kernel_rfl) (fun wx ρ hwx h0 hc => load_i rfl ρ (CY.out wx hwx) h0) ?_
            refine wpL_val (.int .i64 z) [iV x, iV y] (by kernel_rfl) (by kernel_rfl) rfl (by kernel_rfl) (by kernel_rfl) (by kernel_rfl) (by kernel_rfl) ENT.out (fun wx hwx => ASK.out wx hwx) ?_
            refine wpL_run1 (x := .tmp 32) (.int .i64 z) (.bool false) (by kernel_rfl) (by kernel_rfl) (by kernel_rfl) (by kernel_rfl) (by kernel_rfl) (fun wx ρ hwx h0 hc => lss_i rfl HT.out ρ wx h0 (hc _)) ?_
            refine wpL_run2 (x := .tmp 21) (y := .tmp 33) (.bool true) (.bool false) (.bool false) (by kernel_rfl) (by kernel_rfl) (by kernel_rfl) (by kernel_rfl) (by kernel_rfl) (by kernel_rfl) (fun wx ρ hwx h0 h1 hc => by simp [go_sem, h0, h1]) ?_
            refine wpL_end (by kernel_rfl) (fun w1 hw1 => ?_)
            simp only [FinL, setL, List.set_cons_zero, List.set_cons_succ]
            have H1 := Lib.hid (HK.out.later hw1)
            clear hj1 ASK CX CY
            go_wp2
            go_roundw
            case rel => exact ⟨i + 1, X, by go_num, by omega, by omega, by rw [HE2.out]; exact H1.out, HE1.out⟩
            case measure => simp [intOf]; omega
        · have hgt : decide ((a : Int) < (j1 : Int)) = false := decide_eq_false (by omega)
          have HE2 : Hid (X = dk) := by
            show _ = _
            rw [← HE.out]
            cases j1 with
            | zero => rfl
            | succ k => rw [Sort.insInner]; simp [hgt0]
          clear HE
          go_wp2_with (fail)
          refine wp_lax_list (by kernel_rfl) (by kernel_rfl) (by kernel_rfl) ?_
          refine wpL_move (.int .i64 (j1 : Int)) rfl (by kernel_rfl) (by kernel_rfl) (by kernel_rfl) (by kernel_rfl) ?_
          refine wpL_move (.int .i64 (a : Int)) rfl (by kernel_rfl) (by kernel_rfl) (by kernel_rfl) (by kernel_rfl) ?_
          refine wpL_run2 (x := .tmp 18) (y := .tmp 19) (.int .i64 (j1 : Int)) (.int .i64 (a : Int)) (.bool false) (by kernel_rfl) (by kernel_rfl) (by kernel_rfl) (by kernel_rfl) (by kernel_rfl) (by kernel_rfl) (fun wx ρ hwx h0 h1 hc => gtr_i rfl hgt ρ wx h0 h1) ?_
          refine wpL_move (.bool false) rfl (by kernel_rfl) (by kernel_rfl) (by kernel_rfl) (by kernel_rfl) ?_
          refine wpL_skip (by kernel_rfl) (by kernel_rfl) ?_
          refine wpL_skip (by kernel_rfl) (by kernel_rfl) ?_
          refine wpL_skip (by kernel_rfl) (by kernel_rfl) ?_
          refine wpL_skip (by kernel_rfl) (by kernel_rfl) ?_
          refine wpL_skip (by kernel_rfl) (by kernel_rfl) ?_
          refine wpL_skip (by kernel_rfl) (by kernel_rfl) ?_
          refine wpL_skip (by kernel_rfl) (by kernel_rfl) ?_
          refine wpL_skip (by kernel_rfl) (by kernel_rfl) ?_
          refine wpL_skip (by kernel_rfl) (by kernel_rfl) ?_
          refine wpL_skip (by kernel_rfl) (by kernel_rfl) ?_
          refine wpL_skip (by kernel_rfl) (by kernel_rfl) ?_
          refine wpL_skip (by kernel_rfl) (by kernel_rfl) ?_
          refine wpL_run1 (x := .tmp 21) (.bool false) (.bool false) (by kernel_rfl) (by kernel_rfl) (by kernel_rfl) (by kernel_rfl) (by kernel_rfl) (fun wx ρ hwx h0 hc => by simp [go_sem, h0, hc]) ?_
          refine wpL_end (by kernel_rfl) (fun w1 hw1 => ?_)
          simp only [FinL, setL, List.set_cons_zero, List.set_cons_succ]
          have H1 := Lib.hid (HK.out.later hw1)
          go_wp2
          go_roundw
          case rel => exact ⟨i + 1, X, by go_num, by omega, by omega, by rw [HE2.out]; exact H1.out, HE1.out⟩
          case measure => simp [intOf]; omega
    · have HE2 : Hid (R = dk) := by show _ = _; rw [← HE.out, Sort.insOuter, if_neg (by omega)]
      clear HE
      go_wp2
      go_end0
      rw [HE2.out]
      exact ⟨rfl, HK.out⟩
end
end Srt
end Go.Proofs.Ytlgfddpgmpabcaa

end
section
namespace Go.Own
open Go.RowKit
/-- a slice that reads as these cells, wherever it begins -/
def RdWin (w : World) (v : Value) (n : Nat) (xs : List Value) : Prop := ∃ ao cap, v = .slice ao n cap ∧ (n = 0 ∨ ∃ g o, ao = some ⟨g, o, none⟩ ∧ ∀ j u, xs[j]? = some u → w.cell? ⟨g, o + j, none⟩ = some u)
theorem RdWin.later {W w : World} {v : Value} {n : Nat} {xs : List Value} (h : RdWin W v n xs) (hb : Below W.heap.size W w) : RdWin w v n xs := by
  obtain ⟨ao, cap, e, h⟩ := h
  refine ⟨ao, cap, e, ?_⟩
  rcases h with h | ⟨g, o, e2, hc⟩
  · exact .inl h
  · exact .inr ⟨g, o, e2, fun j u hu => cellLater' (hc j u hu) hb⟩
def tyWin (n : Nat) (xs : List Value) : Ty where
  holds v w := RdWin w v n xs
  keep h g := h.later g
end Go.Own

end
section
namespace Go.Proofs.Ytlgfddpgmpabcaa
open Go.RowKit Go.Own
namespace Tba
open Go.TabM Tab
/-- cmp.Compare of two numbers -/
def cmpN (x y : Nat) : Int := if x < y then -1 else if y < x then 1 else 0
theorem cmp64 (x y : Nat) (w : World) : Calls Try.prog 48 #[.int .u64 (x : Int), .int .u64 (y : Int)] w fun e w' => e = .returned (.int .i64 (cmpN x y)) ∧ w' = w := by
  unfold cmpN
  by_cases h1 : x < y
  · have h1I : (x : Int) < (y : Int) := by omega
    rw [if_pos h1]
    go_enter Try.func48, Try.ntmps48
    go_wp2
    go_ret
    exact ⟨rfl, rfl⟩
  · rw [if_neg h1]
    have h1I : ¬ (x : Int) < (y : Int) := by omega
    by_cases h2 : y < x
    · have h2I : (y : Int) < (x : Int) := by omega
      rw [if_pos h2]
      go_enter Try.func48, Try.ntmps48
      go_wp2
      go_ret
      exact ⟨rfl, rfl⟩
    · rw [if_neg h2]
      have h2I : ¬ (y : Int) < (x : Int) := by omega
      go_enter Try.func48, Try.ntmps48
      go_wp2
      go_ret
      exact ⟨rfl, rfl⟩
theorem cmp32 (x y : Nat) (w : World) : Calls Try.prog 50 #[.int .u32 (x : Int), .int .u32 (y : Int)] w fun e w' => e = .returned (.int .i64 (cmpN x y)) ∧ w' = w := by
  unfold cmpN
  by_cases h1 : x < y
  · have h1I : (x : Int) < (y : Int) := by omega
    rw [if_pos h1]
    go_enter Try.func50, Try.ntmps50
    go_wp2
    go_ret
    exact ⟨rfl, rfl⟩
  · rw [if_neg h1]
    have h1I : ¬ (x : Int) < (y : Int) := by omega
    by_cases h2 : y < x
    · have h2I : (y : Int) < (x : Int) := by omega
      rw [if_pos h2]
      go_enter Try.func50, Try.ntmps50
      go_wp2
      go_ret
      exact ⟨rfl, rfl⟩
    · rw [if_neg h2]
      have h2I : ¬ (y : Int) < (x : Int) := by omega
      go_enter Try.func50, Try.ntmps50
      go_wp2
      go_ret
      exact ⟨rfl, rfl⟩
theorem cmpI (x y : Nat) (w : World) : Calls Try.prog 49 #[.int .i64 (x : Int), .int .i64 (y : Int)] w fun e w' => e = .returned (.int .i64 (cmpN x y)) ∧ w' = w := by
  unfold cmpN
  by_cases h1 : x < y
  · have h1I : (x : Int) < (y : Int) := by omega
    rw [if_pos h1]
    go_enter Try.func49, Try.ntmps49
    go_wp2
    go_ret
    exact ⟨rfl, rfl⟩
  · rw [if_neg h1]
    have h1I : ¬ (x : Int) < (y : Int) := by omega
    by_cases h2 : y < x
    · have h2I : (y : Int) < (x : Int) := by omega
      rw [if_pos h2]
      go_enter Try.func49, Try.ntmps49
      go_wp2
      go_ret
      exact ⟨rfl, rfl⟩
    · rw [if_neg h2]
      have h2I : ¬ (y : Int) < (x : Int) := by omega
      go_enter Try.func49, Try.ntmps49
      go_wp2
      go_ret
      exact ⟨rfl, rfl⟩
/-- the first that is not 0 -/
def orI (a b : Int) : Int := if a = 0 then b else a
set_option maxHeartbeats 1600000 in
theorem or_any (a b : Int) (v : Value) (w : World) (hv : RdWin w v 2 [.int .i64 a, .int .i64 b]) : Calls Try.prog 47 #[v] w fun e w' => e = .returned (.int .i64 (orI a b)) ∧ w' = w := by
  obtain ⟨ao, cap, rfl, h | ⟨g, o, rfl, hc⟩⟩ := hv
  · cases h
  · have c0 := hc 0 _ rfl
    rw [Nat.add_zero] at c0
    have c1 := hc 1 _ rfl
    clear hc
    have d0 : decide ((0 : Int) < 2) = true := rfl
    unfold orI
    by_cases ha : a = 0
    · subst ha
      rw [if_pos rfl]
      by_cases hb : b = 0
      · subst hb
        go_enter Try.func47, Try.ntmps47
        go_wp2
        go_loopw [8] (fun v8 wr => ∃ i : Nat, i ≤ 2 ∧ v8 = .int .i64 (i : Int) ∧ wr = w) (fun v8 _ => 2 - (intOf v8).toNat)
        case atStart => exact ⟨0, by omega, rfl, rfl⟩
        case round =>
          obtain ⟨i, hi, rfl, rfl⟩ := hrel
          rcases (show i = 0 ∨ i = 1 ∨ i = 2 by omega) with rfl | rfl | rfl
          · go_wp2
            go_roundw
            case rel => exact ⟨1, by omega, by go_num, (by first | rfl | trivial)⟩
            case measure => simp [intOf]
          · go_wp2
            go_roundw
            case rel => exact ⟨2, by omega, by go_num, (by first | rfl | trivial)⟩
            case measure => simp [intOf]
          · go_wp2
            go_ret
            exact ⟨rfl, rfl⟩
      · have hbb : (b == 0) = false := by simp [hb]
        have hbn : (b != 0) = true := by simp [hb]
        go_enter Try.func47, Try.ntmps47
        go_wp2
        go_loopw [8] (fun v8 wr => ∃ i : Nat, i ≤ 1 ∧ v8 = .int .i64 (i : Int) ∧ wr = w) (fun v8 _ => 2 - (intOf v8).toNat)
        case atStart => exact ⟨0, by omega, rfl, rfl⟩
        case round =>
          obtain ⟨i, hi, rfl, rfl⟩ := hrel
          rcases (show i = 0 ∨ i = 1 by omega) with rfl | rfl
          · go_wp2
            go_roundw
            case rel => exact ⟨1, by omega, by go_num, (by first | rfl | trivial)⟩
            case measure => simp [intOf]
          · go_wp2
            go_ret
            exact ⟨rfl, rfl⟩
    · rw [if_neg ha]
      have haa : (a == 0) = false := by simp [ha]
      have han : (a != 0) = true := by simp [ha]
      go_enter Try.func47, Try.ntmps47
      go_wp2
      go_loopw [8] (fun v8 wr => v8 = .int .i64 0 ∧ wr = w) (fun v8 _ => 2 - (intOf v8).toNat)
      case atStart => exact ⟨rfl, rfl⟩
      case round =>
        obtain ⟨rfl, rfl⟩ := hrel
        go_wp2
        go_ret
        exact ⟨rfl, rfl⟩
/-- how two segments are ordered -/
def seqCmp (rows : List Sg) (i j : Nat) : Int := orI (cmpN (at_ rows i).seq (at_ rows j).seq) (cmpN i j)
def wearCmp (rows : List Sg) (i j : Nat) : Int := cmpN (at_ rows i).wear (at_ rows j).wear
end Tba
end Go.Proofs.Ytlgfddpgmpabcaa

end
section
namespace Go.Proofs.Ytlgfddpgmpabcaa
open Go.RowKit Go.Own
namespace Tba
open Go.TabM Tab
theorem fld_rows {o : Oper} {X : Operand} (ho : o.op = .fieldAddr 61 X 0) {p : Nat} (ρ : Operand → Value) (w : World) (h0 : ρ X = .pointer (some ⟨p, 0, none⟩)) : (execOp ρ o).run Try.prog w = .ok (.value (.pointer (some ⟨p, 0, none⟩))) w := by
  simp [execOp, ho, h0, go_sem, add_of, Try.underlying61]
theorem fld_seg1 {o : Oper} {X : Operand} (ho : o.op = .fieldAddr 44 X 1) {p i : Nat} (ρ : Operand → Value) (w : World) (h0 : ρ X = .pointer (some ⟨p, i, none⟩)) : (execOp ρ o).run Try.prog w = .ok (.value (.pointer (some ⟨p, i + 1, none⟩))) w := by
  simp [execOp, ho, h0, go_sem, add_of, Try.underlying44]
theorem fld_seg2 {o : Oper} {X : Operand} (ho : o.op = .fieldAddr 44 X 2) {p i : Nat} (ρ : Operand → Value) (w : World) (h0 : ρ X = .pointer (some ⟨p, i, none⟩)) : (execOp ρ o).run Try.prog w = .ok (.value (.pointer (some ⟨p, i + 2, none⟩))) w := by
  simp [execOp, ho, h0, go_sem, add_of, Try.underlying44]
theorem ld_rows {o : Oper} {X : Operand} (ho : o.op = .load 40 X) {a : Addr} {v : Value} (ρ : Operand → Value) {w : World} (hc : w.cell? a = some v) (h0 : ρ X = .pointer (some a)) : (execOp ρ o).run Try.prog w = .ok (.value v) w := by
  simp [execOp, ho, h0, go_sem, hc]
theorem ld_w {o : Oper} {X : Operand} (ho : o.op = .load 42 X) {a : Addr} {v : Value} (ρ : Operand → Value) {w : World} (hc : w.cell? a = some v) (h0 : ρ X = .pointer (some a)) : (execOp ρ o).run Try.prog w = .ok (.value v) w := by
  simp [execOp, ho, h0, go_sem, hc]
theorem ld_q {o : Oper} {X : Operand} (ho : o.op = .load 34 X) {a : Addr} {v : Value} (ρ : Operand → Value) {w : World} (hc : w.cell? a = some v) (h0 : ρ X = .pointer (some a)) : (execOp ρ o).run Try.prog w = .ok (.value v) w := by
  simp [execOp, ho, h0, go_sem, hc]
theorem two_ints {o : Oper} {x y : Operand} (ho : o.op = .buildSlice 57 2 #[(0, x), (1, y)]) (a b : Int) (ρ : Operand → Value) (h0 : ρ x = .int .i64 a) (h1 : ρ y = .int .i64 b) (w : World) : ∃ v w', (execOp ρ o).run Try.prog w = .ok (.value v) w' ∧ (tyWin 2 [.int .i64 a, .int .i64 b]).holds v w' ∧ Below w.heap.size w w' := by
  refine ⟨.slice (some ⟨w.heap.size, 0, none⟩) 2 2, w.alloc (.cells #[.int .i64 a, .int .i64 b] 3), ?_, ?_, ((Own.St.start w).alloc _).below⟩
  · simp [execOp, ho, h0, h1, go_sem]
  · refine ⟨_, _, rfl, .inr ⟨w.heap.size, 0, rfl, fun j u hu => ?_⟩⟩
    rw [Nat.zero_add]
    exact (((Own.St.start w).boxV 3 [.int .i64 a, .int .i64 b]).cellV 0 rfl j hu).1
section
variable {B : Nat} {w0 w : World} {Ps : List Asn} {p : Nat} {v : Value} {t : T} {N : Nat}
set_option maxHeartbeats 1600000 in
theorem byWear_any (H : Own.St B w0 w (AT p v t :: Ps)) (i j : Nat) (hi0 : i < t.rows.length) (hj0 : j < t.rows.length) : Calls Try.prog 40 #[ptr p, .int .i64 (i : Int), .int .i64 (j : Int)] w fun e w' => e = .returned (.int .i64 (wearCmp t.rows i j)) ∧ Below w.heap.size w w' := by
  have h0 := at_open H
  obtain ⟨g, cap, rfl, ha⟩ := rowG_at h0 1 rfl i hi0
  obtain ⟨g', cap', e, hb⟩ := rowG_at h0 1 rfl j hj0
  simp only [Value.slice.injEq, Option.some.injEq, Addr.mk.injEq, and_true, true_and] at e
  obtain ⟨rfl, -⟩ := e
  obtain ⟨n, hn⟩ : ∃ n, n = t.rows.length := ⟨_, rfl⟩
  have hi : i < n := by omega
  have hj : j < n := by omega
  have CV : Hid (∀ wx, Below w.heap.size w wx → wx.cell? ⟨p, 0, none⟩ = some (.slice (some ⟨g, 0, none⟩) n cap)) := fun wx hw => by rw [hn]; exact ((h0.later hw).cellV 0 rfl 0 rfl).1
  obtain ⟨x, hx⟩ : ∃ x, x = (at_ t.rows i).wear := ⟨_, rfl⟩
  obtain ⟨y, hy⟩ : ∃ x, x = (at_ t.rows j).wear := ⟨_, rfl⟩
  have CX : Hid (∀ wx, Below w.heap.size w wx → wx.cell? ⟨g, i * 3 + 2, none⟩ = some (.int .u32 (x : Int))) := fun wx hw => by rw [hx]; exact cellLater' ha.c2 hw
  have CY : Hid (∀ wx, Below w.heap.size w wx → wx.cell? ⟨g, j * 3 + 2, none⟩ = some (.int .u32 (y : Int))) := fun wx hw => by rw [hy]; exact cellLater' hb.c2 hw
  obtain ⟨z, hz⟩ : ∃ z, z = wearCmp t.rows i j := ⟨_, rfl⟩
  have CZ : Hid (∀ wx, Calls Try.prog 50 #[.int .u32 (x : Int), .int .u32 (y : Int)] wx fun e w' => e = .returned (.int .i64 z) ∧ Below wx.heap.size wx w') := fun wx => (cmp32 x y wx).mono fun _ _ h => ⟨by rw [h.1, hz, hx, hy]; rfl, h.2 ▸ Below.refl _ _⟩
  rw [← hz]
  clear hz hx hy ha hb h0 H hn hi0 hj0
  go_enter Try.func40, Try.ntmps40
  go_wp2_with (fail)
  refine wp_lax_list (by kernel_rfl) (by kernel_rfl) (by kernel_rfl) ?_
  refine wpL_move (ptr p) rfl (by kernel_rfl) (by kernel_rfl) (by kernel_rfl) (by kernel_rfl) ?_
  refine wpL_run1 (x := .tmp 7) (ptr p) (.pointer (some ⟨p, 0, none⟩)) (by kernel_rfl) (by kernel_rfl) (by kernel_rfl) (by kernel_rfl) (by kernel_rfl) (fun wx ρ hwx h0 hc => by simp [go_sem, h0, hc]) ?_
  refine wpL_run1 (x := .tmp 8) (.pointer (some ⟨p, 0, none⟩)) (.pointer (some ⟨p, 0, none⟩)) (by kernel_rfl) (by kernel_rfl) (by kernel_rfl) (by kernel_rfl) (by kernel_rfl) (fun wx ρ hwx h0 hc => fld_rows rfl ρ wx h0) ?_
  refine wpL_run1 (x := .tmp 9) (.pointer (some ⟨p, 0, none⟩)) (.slice (some ⟨g, 0, none⟩) n cap) (by kernel_rfl) (by kernel_rfl) (by kernel_rfl) (by kernel_rfl) (by kernel_rfl) (fun wx ρ hwx h0 hc => ld_rows rfl ρ (CV.out wx hwx) h0) ?_
  refine wpL_move (.int .i64 (i : Int)) rfl (by kernel_rfl) (by kernel_rfl) (by kernel_rfl) (by kernel_rfl) ?_
  refine wpL_run2 (x := .tmp 10) (y := .tmp 11) (.slice (some ⟨g, 0, none⟩) n cap) (.int .i64 (i : Int)) (.pointer (some ⟨g, i * 3, none⟩)) (by kernel_rfl) (by kernel_rfl) (by kernel_rfl) (by kernel_rfl) (by kernel_rfl) (by kernel_rfl) (fun wx ρ hwx h0 h1 hc => idx_seg rfl hi ρ wx h0 h1) ?_
  refine wpL_run1 (x := .tmp 12) (.pointer (some ⟨g, i * 3, none⟩)) (.pointer (some ⟨g, i * 3 + 2, none⟩)) (by kernel_rfl) (by kernel_rfl) (by kernel_rfl) (by kernel_rfl) (by kernel_rfl) (fun wx ρ hwx h0 hc => fld_seg2 rfl ρ wx h0) ?_
  refine wpL_run1 (x := .tmp 13) (.pointer (some ⟨g, i * 3 + 2, none⟩)) (.int .u32 (x : Int)) (by kernel_rfl) (by kernel_rfl) (by kernel_rfl) (by kernel_rfl) (by kernel_rfl) (fun wx ρ hwx h0 hc => ld_w rfl ρ (CX.out wx hwx) h0) ?_
  refine wpL_move (ptr p) rfl (by kernel_rfl) (by kernel_rfl) (by kernel_rfl) (by kernel_rfl) ?_
  refine wpL_run1 (x := .tmp 15) (ptr p) (.pointer (some ⟨p, 0, none⟩)) (by kernel_rfl) (by kernel_rfl) (by kernel_rfl) (by kernel_rfl) (by kernel_rfl) (fun wx ρ hwx h0 hc => by simp [go_sem, h0, hc]) ?_
  refine wpL_run1 (x := .tmp 16) (.pointer (some ⟨p, 0, none⟩)) (.pointer (some ⟨p, 0, none⟩)) (by kernel_rfl) (by kernel_rfl) (by kernel_rfl) (by kernel_rfl) (by kernel_rfl) (fun wx ρ hwx h0 hc => fld_rows rfl ρ wx h0) ?_
  refine wpL_run1 (x := .tmp 17) (.pointer (some ⟨p, 0, none⟩)) (.slice (some ⟨g, 0, none⟩) n cap) (by kernel_rfl) (by kernel_rfl) (by kernel_rfl) (by kernel_rfl) (by kernel_rfl) (fun wx ρ hwx h0 hc => ld_rows rfl ρ (CV.out wx hwx) h0) ?_
  refine wpL_move (.int .i64 (j : Int)) rfl (by kernel_rfl) (by kernel_rfl) (by kernel_rfl) (by kernel_rfl) ?_
  refine wpL_run2 (x := .tmp 18) (y := .tmp 19) (.slice (some ⟨g, 0, none⟩) n cap) (.int .i64 (j : Int)) (.pointer (some ⟨g, j * 3, none⟩)) (by kernel_rfl) (by kernel_rfl) (by kernel_rfl) (by kernel_rfl) (by kernel_rfl) (by kernel_rfl) (fun wx ρ hwx h0 h1 hc => idx_seg rfl hj ρ wx h0 h1) ?_
  refine wpL_run1 (x := .tmp 20) (.pointer (some ⟨g, j * 3, none⟩)) (.pointer (some ⟨g, j * 3 + 2, none⟩)) (by kernel_rfl) (by kernel_rfl) (by kernel_rfl) (by kernel_rfl) (by kernel_rfl) (fun wx ρ hwx h0 hc => fld_seg2 rfl ρ wx h0) ?_
  refine wpL_run1 (x := .tmp 21) (.pointer (some ⟨g, j * 3 + 2, none⟩)) (.int .u32 (y : Int)) (by kernel_rfl) (by kernel_rfl) (by kernel_rfl) (by kernel_rfl) (by kernel_rfl) (fun wx ρ hwx h0 hc => ld_w rfl ρ (CY.out wx hwx) h0) ?_
  refine wpL_fn (.int .i64 z) [.int .u32 (x : Int), .int .u32 (y : Int)] rfl (by kernel_rfl) (by kernel_rfl) (by kernel_rfl) (by kernel_rfl) (fun _ _ => by simp [go_sem]) (fun wx hwx => CZ.out wx) ?_
  refine wpL_assign (.int .i64 z) rfl (by kernel_rfl) (by kernel_rfl) (by kernel_rfl) (by kernel_rfl) ?_
  refine wpL_end (by kernel_rfl) (fun w1 hw1 => ?_)
  simp only [FinL, setL, List.set_cons_zero, List.set_cons_succ]
  have HW := Lib.hid hw1
  clear hw1
  go_wp2
  go_ret
  exact ⟨rfl, HW.out⟩
set_option maxHeartbeats 1600000 in
theorem bySeq_any (H : Own.St B w0 w (AT p v t :: Ps)) (i j : Nat) (hi0 : i < t.rows.length) (hj0 : j < t.rows.length) : Calls Try.prog 38 #[ptr p, .int .i64 (i : Int), .int .i64 (j : Int)] w fun e w' => e = .returned (.int .i64 (seqCmp t.rows i j)) ∧ Below w.heap.size w w' := by
  have h0 := at_open H
  obtain ⟨g, cap, rfl, ha⟩ := rowG_at h0 1 rfl i hi0
  obtain ⟨g', cap', e, hb⟩ := rowG_at h0 1 rfl j hj0
  simp only [Value.slice.injEq, Option.some.injEq, Addr.mk.injEq, and_true, true_and] at e
  obtain ⟨rfl, -⟩ := e
  obtain ⟨n, hn⟩ : ∃ n, n = t.rows.length := ⟨_, rfl⟩
  have hi : i < n := by omega
  have hj : j < n := by omega
  have CV : Hid (∀ wx, Below w.heap.size w wx → wx.cell? ⟨p, 0, none⟩ = some (.slice (some ⟨g, 0, none⟩) n cap)) := fun wx hw => by rw [hn]; exact ((h0.later hw).cellV 0 rfl 0 rfl).1
  obtain ⟨x, hx⟩ : ∃ x, x = (at_ t.rows i).seq := ⟨_, rfl⟩
  obtain ⟨y, hy⟩ : ∃ x, x = (at_ t.rows j).seq := ⟨_, rfl⟩
  have CX : Hid (∀ wx, Below w.heap.size w wx → wx.cell? ⟨g, i * 3 + 1, none⟩ = some (.int .u64 (x : Int))) := fun wx hw => by rw [hx]; exact cellLater' ha.c1 hw
  have CY : Hid (∀ wx, Below w.heap.size w wx → wx.cell? ⟨g, j * 3 + 1, none⟩ = some (.int .u64 (y : Int))) := fun wx hw => by rw [hy]; exact cellLater' hb.c1 hw
  obtain ⟨z1, hz1⟩ : ∃ z, z = cmpN x y := ⟨_, rfl⟩
  obtain ⟨z2, hz2⟩ : ∃ z, z = cmpN i j := ⟨_, rfl⟩
  obtain ⟨z, hz⟩ : ∃ z, z = seqCmp t.rows i j := ⟨_, rfl⟩
  have CZ : Hid (∀ wx, Calls Try.prog 48 #[.int .u64 (x : Int), .int .u64 (y : Int)] wx fun e w' => e = .returned (.int .i64 z1) ∧ Below wx.heap.size wx w') := fun wx => (cmp64 x y wx).mono fun _ _ h => ⟨by rw [h.1, hz1], h.2 ▸ Below.refl _ _⟩
  have CI : Hid (∀ wx, Calls Try.prog 49 #[.int .i64 (i : Int), .int .i64 (j : Int)] wx fun e w' => e = .returned (.int .i64 z2) ∧ Below wx.heap.size wx w') := fun wx => (cmpI i j wx).mono fun _ _ h => ⟨by rw [h.1, hz2], h.2 ▸ Below.refl _ _⟩
  have CO : Hid (∀ u wx, RdWin wx u 2 [.int .i64 z1, .int .i64 z2] → Calls Try.prog 47 #[u] wx fun e w' => e = .returned (.int .i64 z) ∧ w' = wx) := fun u wx hu => (or_any z1 z2 u wx hu).mono fun _ _ h => ⟨by rw [h.1, hz, hz1, hz2, hx, hy]; rfl, h.2⟩
  rw [← hz]
  clear hz hz1 hz2 hx hy ha hb h0 H hn hi0 hj0
  go_enter Try.func38, Try.ntmps38
  go_wp2_with (fail)
  refine wp_lax_list (by kernel_rfl) (by kernel_rfl) (by kernel_rfl) ?_
  refine wpL_move (ptr p) rfl (by kernel_rfl) (by kernel_rfl) (by kernel_rfl) (by kernel_rfl) ?_
  refine wpL_run1 (x := .tmp 7) (ptr p) (.pointer (some ⟨p, 0, none⟩)) (by kernel_rfl) (by kernel_rfl) (by kernel_rfl) (by kernel_rfl) (by kernel_rfl) (fun wx ρ hwx h0 hc => by simp [go_sem, h0, hc]) ?_
  refine wpL_run1 (x := .tmp 8) (.pointer (some ⟨p, 0, none⟩)) (.pointer (some ⟨p, 0, none⟩)) (by kernel_rfl) (by kernel_rfl) (by kernel_rfl) (by kernel_rfl) (by kernel_rfl) (fun wx ρ hwx h0 hc => fld_rows rfl ρ wx h0) ?_
  refine wpL_run1 (x := .tmp 9) (.pointer (some ⟨p, 0, none⟩)) (.slice (some ⟨g, 0, none⟩) n cap) (by kernel_rfl) (by kernel_rfl) (by kernel_rfl) (by kernel_rfl) (by kernel_rfl) (fun wx ρ hwx h0 hc => ld_rows rfl ρ (CV.out wx hwx) h0) ?_
  refine wpL_move (.int .i64 (i : Int)) rfl (by kernel_rfl) (by kernel_rfl) (by kernel_rfl) (by kernel_rfl) ?_
  refine wpL_run2 (x := .tmp 10) (y := .tmp 11) (.slice (some ⟨g, 0, none⟩) n cap) (.int .i64 (i : Int)) (.pointer (some ⟨g, i * 3, none⟩)) (by kernel_rfl) (by kernel_rfl) (by kernel_rfl) (by kernel_rfl) (by kernel_rfl) (by kernel_rfl) (fun wx ρ hwx h0 h1 hc => idx_seg rfl hi ρ wx h0 h1) ?_
  refine wpL_run1 (x := .tmp 12) (.pointer (some ⟨g, i * 3, none⟩)) (.pointer (some ⟨g, i * 3 + 1, none⟩)) (by kernel_rfl) (by kernel_rfl) (by kernel_rfl) (by kernel_rfl) (by kernel_rfl) (fun wx ρ hwx h0 hc => fld_seg1 rfl ρ wx h0) ?_
  refine wpL_run1 (x := .tmp 13) (.pointer (some ⟨g, i * 3 + 1, none⟩)) (.int .u64 (x : Int)) (by kernel_rfl) (by kernel_rfl) (by kernel_rfl) (by kernel_rfl) (by kernel_rfl) (fun wx ρ hwx h0 hc => ld_q rfl ρ (CX.out wx hwx) h0) ?_
  refine wpL_move (ptr p) rfl (by kernel_rfl) (by kernel_rfl) (by kernel_rfl) (by kernel_rfl) ?_
  refine wpL_run1 (x := .tmp 15) (ptr p) (.pointer (some ⟨p, 0, none⟩)) (by kernel_rfl) (by kernel_rfl) (by kernel_rfl) (by kernel_rfl) (by kernel_rfl) (fun wx ρ hwx h0 hc => by simp [go_sem, h0, hc]) ?_
  refine wpL_run1 (x := .tmp 16) (.pointer (some ⟨p, 0, none⟩)) (.pointer (some ⟨p, 0, none⟩)) (by kernel_rfl) (by kernel_rfl) (by kernel_rfl) (by kernel_rfl) (by kernel_rfl) (fun wx ρ hwx h0 hc => fld_rows rfl ρ wx h0) ?_
  refine wpL_run1 (x := .tmp 17) (.pointer (some ⟨p, 0, none⟩)) (.slice (some ⟨g, 0, none⟩) n cap) (by kernel_rfl) (by kernel_rfl) (by kernel_rfl) (by kernel_rfl) (by kernel_rfl) (fun wx ρ hwx h0 hc => ld_rows rfl ρ (CV.out wx hwx) h0) ?_
  refine wpL_move (.int .i64 (j : Int)) rfl (by kernel_rfl) (by kernel_rfl) (by kernel_rfl) (by kernel_rfl) ?_
  refine wpL_run2 (x := .tmp 18) (y := .tmp 19) (.slice (some ⟨g, 0, none⟩) n cap) (.int .i64 (j : Int)) (.pointer (some ⟨g, j * 3, none⟩)) (by kernel_rfl) (by kernel_rfl) (by kernel_rfl) (by kernel_rfl) (by kernel_rfl) (by kernel_rfl) (fun wx ρ hwx h0 h1 hc => idx_seg rfl hj ρ wx h0 h1) ?_
  refine wpL_run1 (x := .tmp 20) (.pointer (some ⟨g, j * 3, none⟩)) (.pointer (some ⟨g, j * 3 + 1, none⟩)) (by kernel_rfl) (by kernel_rfl) (by kernel_rfl) (by kernel_rfl) (by kernel_rfl) (fun wx ρ hwx h0 hc => fld_seg1 rfl ρ wx h0) ?_
  refine wpL_run1 (x := .tmp 21) (.pointer (some ⟨g, j * 3 + 1, none⟩)) (.int .u64 (y : Int)) (by kernel_rfl) (by kernel_rfl) (by kernel_rfl) (by kernel_rfl) (by kernel_rfl) (fun wx ρ hwx h0 hc => ld_q rfl ρ (CY.out wx hwx) h0) ?_
  refine wpL_fn (.int .i64 z1) [.int .u64 (x : Int), .int .u64 (y : Int)] rfl (by kernel_rfl) (by kernel_rfl) (by kernel_rfl) (by kernel_rfl) (fun _ _ => by simp [go_sem]) (fun wx hwx => CZ.out wx) ?_
  refine wpL_move (.int .i64 (i : Int)) rfl (by kernel_rfl) (by kernel_rfl) (by kernel_rfl) (by kernel_rfl) ?_
  refine wpL_move (.int .i64 (j : Int)) rfl (by kernel_rfl) (by kernel_rfl) (by kernel_rfl) (by kernel_rfl) ?_
  refine wpL_fn (.int .i64 z2) [.int .i64 (i : Int), .int .i64 (j : Int)] rfl (by kernel_rfl) (by kernel_rfl) (by kernel_rfl) (by kernel_rfl) (fun _ _ => by simp [go_sem]) (fun wx hwx => CI.out wx) ?_
  refine wpL_runT (tyWin 2 [.int .i64 z1, .int .i64 z2]) rfl (by kernel_rfl) (by kernel_rfl) (by kernel_rfl) (by kernel_rfl) (fun wx hwx => two_ints rfl z1 z2 _ (by kernel_rfl) (by kernel_rfl) wx) ?_
  refine wpL_fnUV (.int .i64 z) rfl rfl (by kernel_rfl) (by kernel_rfl) (fun _ _ => by simp [go_sem]) (fun u wx hwx hu => (CO.out u wx hu).mono fun _ _ h => ⟨h.1, h.2 ▸ Below.refl _ _⟩) ?_
  refine wpL_assign (.int .i64 z) rfl (by kernel_rfl) (by kernel_rfl) (by kernel_rfl) (by kernel_rfl) ?_
  refine wpL_end (by kernel_rfl) (fun w1 hw1 => ?_)
  simp only [FinL, setL, List.set_cons_zero, List.set_cons_succ]
  intro x27 _
  have HW := Lib.hid hw1
  clear hw1
  go_wp2
  go_ret
  exact ⟨rfl, HW.out⟩
end
end Tba
end Go.Proofs.Ytlgfddpgmpabcaa

end
section
namespace Go.Proofs.Ytlgfddpgmpabcaa
open Go.RowKit Go.Own
namespace Tba
open Go.TabM Tab
/-- the least worn of some segments, the first of several -/
def minO (rows : List Sg) : Option Nat → List Nat → Option Nat
  | b, [] => b
  | none, x :: l => minO rows (some x) l
  | some m, x :: l => minO rows (some (if (at_ rows x).wear < (at_ rows m).wear then x else m)) l
theorem best_all (rows : List Sg) : ∀ (l : List Sg) (i : Nat) (b : Option Nat), (∀ k s, l[k]? = some s → at_ rows (i + k) = s) →
    bestF (b.map fun m => (m, (at_ rows m).wear)) i l = (minO rows b (allF 0 i l)).map fun m => (m, (at_ rows m).wear)
  | [], _, b, _ => by simp [bestF, allF, minO]
  | s :: l, i, b, h => by
    have hs := h 0 s rfl
    rw [Nat.add_zero] at hs
    have hl : ∀ k s', l[k]? = some s' → at_ rows (i + 1 + k) = s' := fun k s' hk => by
      have := h (k + 1) s' hk
      rwa [show i + (k + 1) = i + 1 + k by omega] at this
    unfold bestF allF
    by_cases hk : s.kind = 0
    · rw [if_pos hk]
      cases b with
      | none =>
        have e : takes (Option.map (fun m => (m, (at_ rows m).wear)) none) s = true := by simp [takes, hk]
        rw [if_pos e, minO]
        have := best_all rows l (i + 1) (some i) hl
        rw [← this, Option.map_some, hs]
      | some m =>
        rw [minO]
        by_cases hw : s.wear < (at_ rows m).wear
        · have e : takes (Option.map (fun m => (m, (at_ rows m).wear)) (some m)) s = true := by simp [takes, hk, hw]
          rw [if_pos e, hs, if_pos hw]
          have := best_all rows l (i + 1) (some i) hl
          rw [← this, Option.map_some, hs]
        · have e : ¬ takes (Option.map (fun m => (m, (at_ rows m).wear)) (some m)) s = true := by simp [takes, hk, hw]
          rw [if_neg e, hs, if_neg hw]
          exact best_all rows l (i + 1) (some m) hl
    · rw [if_neg hk]
      have e : ¬ takes (Option.map (fun m => (m, (at_ rows m).wear)) b) s = true := by simp [takes, hk]
      rw [if_neg e]
      exact best_all rows l (i + 1) b hl
theorem best_min (t : T) : best t = (minO t.rows none (allL 0 t)).map fun m => (m, (at_ t.rows m).wear) := by
  have := best_all t.rows t.rows 0 none (fun k s hk => by rw [Nat.zero_add]; exact at_eq hk)
  exact this
theorem minO_some (rows : List Sg) : ∀ (l : List Nat) (m : Nat), ∃ k, minO rows (some m) l = some k ∧ (k = m ∨ k ∈ l)
  | [], m => ⟨m, rfl, .inl rfl⟩
  | x :: l, m => by
    obtain ⟨k, h1, h2⟩ := minO_some rows l (if (at_ rows x).wear < (at_ rows m).wear then x else m)
    refine ⟨k, h1, ?_⟩
    rcases h2 with h2 | h2
    · by_cases h : (at_ rows x).wear < (at_ rows m).wear
      · rw [if_pos h] at h2; exact .inr (by rw [h2]; exact List.mem_cons_self)
      · rw [if_neg h] at h2; exact .inl h2
    · exact .inr (List.mem_cons_of_mem _ h2)
theorem wear_lt (rows : List Sg) (x m : Nat) : decide (wearCmp rows x m < 0) = decide ((at_ rows x).wear < (at_ rows m).wear) := by
  unfold wearCmp cmpN
  by_cases h : (at_ rows x).wear < (at_ rows m).wear
  · simp [h]
  · by_cases h2 : (at_ rows m).wear < (at_ rows x).wear <;> simp [h, h2]
theorem minO_at {rows : List Sg} {L : List Nat} {i m : Nat} (hi : i < L.length) : minO rows (some m) (L.drop i) = minO rows (some (if (at_ rows L[i]).wear < (at_ rows m).wear then L[i] else m)) (L.drop (i + 1)) := by
  rw [List.drop_eq_getElem_cons hi, minO]
theorem enters40 (args : Array Value) (w : World) : (callFunc 40 args).run Try.prog w = .ok (.enter 40 args) w := by simp [go_sem]
section
variable {B : Nat} {w0 w : World} {Ps : List Asn} {p : Nat} {v : Value} {t : T} {N : Nat}
theorem rowG_at2 {rows : List Sg} {g c : Nat} (H : Own.St B w0 w Ps) (i : Nat) (hi : Ps[i]? = some (RowG (.slice (some ⟨g, 0, none⟩) rows.length c) rows)) (j : Nat) (hj : j < rows.length) : At w g j (at_ rows j) := by
  obtain ⟨g', c', e, ha⟩ := rowG_at H i hi j hj
  simp only [Value.slice.injEq, Option.some.injEq, Addr.mk.injEq, and_true, true_and] at e
  obtain ⟨rfl, rfl⟩ := e
  exact ha
set_option maxHeartbeats 4000000 in
theorem min_any (H : Own.St B w0 w (AT p v t :: Ps)) (L : List Nat) (hL : ∀ x ∈ L, x < t.rows.length) (hl : L.length ≤ 256) (m : Nat) (l : List Nat) (hml : L = m :: l) {w1 : World} {ao : Option Addr} {c : Nat} (h1 : Own.St w.heap.size w w1 [RowI (.slice ao L.length c) L L.length]) :
    Calls Try.prog 39 #[.slice ao L.length c, .func (.func 40) #[ptr p] #[]] w1 fun e w' => e = .returned (.int .i64 (((minO t.rows (some m) l).getD 0 : Nat) : Int)) ∧ Below w.heap.size w w' := by
  obtain ⟨R, hR⟩ : ∃ R, R = (minO t.rows (some m) l).getD 0 := ⟨_, rfl⟩
  rw [← hR]
  have hR0 : R = (minO t.rows (some m) (L.drop 1)).getD 0 := by rw [hR, hml]; rfl
  have HR0 := Lib.hid hR0
  have HL := Lib.hid hL
  have HH := Lib.hid H
  have H1 := Lib.hid h1
  obtain ⟨n, hn⟩ : ∃ n, n = L.length := ⟨_, rfl⟩
  have hn1 : 0 < n := by rw [hn, hml]; exact Nat.succ_pos _
  have HN := Lib.hid hn
  rw [← hn] at hl H1 ⊢
  have hmL : L[0]'(by omega) = m := by subst hml; rfl
  have hm0 : (L.map iV)[0]? = some (iV m) := by rw [hml]; rfl
  obtain ⟨g, rfl, ⟨u, hu, d0⟩, _, _⟩ := H1.out.rowAt 0 rfl 0 (by omega)
  rw [hm0] at hu
  cases hu
  have HM : Hid (m ∈ L) := by show m ∈ L; rw [hml]; exact List.mem_cons_self
  clear hR hR0 hL H h1 hn hmL hm0 hml
  have hlt1 : ¬ (n : Int) < 1 := by omega
  go_enter Try.func39, Try.ntmps39
  go_wp2
  go_loopw [5, 6] (fun v5 v6 wr => ∃ (i k : Nat), v5 = .int .i64 (k : Int) ∧ v6 = .int .i64 (i : Int) ∧ 1 ≤ i ∧ i ≤ n ∧ k ∈ L ∧ R = (minO t.rows (some k) (L.drop i)).getD 0 ∧ Own.St w.heap.size w wr [RowI (.slice (some ⟨g, 0, none⟩) n c) L n]) (fun _ v6 _ => n - (intOf v6).toNat)
  case atStart => exact ⟨1, m, rfl, rfl, Nat.le_refl _, hn1, HM.out, HR0.out, H1.out⟩
  case round =>
    obtain ⟨i, k, rfl, rfl, h1i, hin, hk, hr, hs⟩ := hrel
    have HS := Lib.hid hs
    have HRR := Lib.hid hr
    have HK := Lib.hid hk
    clear hs hr hk HR0 H1 d0
    by_cases hi : i < n
    · have hiI : (i : Int) < (n : Int) := by omega
      have hiL : i < L.length := by rw [← HN.out]; exact hi
      obtain ⟨x, hx⟩ : ∃ x, x = L[i] := ⟨_, rfl⟩
      have hxL : x ∈ L := by rw [hx]; exact List.getElem_mem _
      have hxm : (L.map iV)[i]? = some (iV x) := by rw [List.getElem?_map, List.getElem?_eq_getElem hiL, hx]; rfl
      obtain ⟨g2, hg2, ⟨u, hu, d0⟩, _, _⟩ := HS.out.rowAt 0 rfl i (by omega)
      cases hg2
      rw [hxm] at hu
      cases hu
      have CB := Lib.hid (byWear_any (HH.out.later HS.out.below) x k (HL.out x hxL) (HL.out k HK.out))
      obtain ⟨z, hz⟩ : ∃ z, z = wearCmp t.rows x k := ⟨_, rfl⟩
      rw [← hz] at CB
      have hwl := wear_lt t.rows x k
      rw [← hz] at hwl
      have HRN : Hid (R = (minO t.rows (some (if (at_ t.rows x).wear < (at_ t.rows k).wear then x else k)) (L.drop (i + 1))).getD 0) := by show _ = _; rw [HRR.out, minO_at hiL, ← hx]
      have HXL := Lib.hid hxL
      have ENT := Lib.hid enters40
      clear hz hx hxL hxm HRR
      by_cases hlt : (at_ t.rows x).wear < (at_ t.rows k).wear
      · have hzI : z < 0 := by rw [decide_eq_true hlt] at hwl; exact of_decide_eq_true hwl
        have HRM : Hid (R = (minO t.rows (some x) (L.drop (i + 1))).getD 0) := by show _ = _; rw [HRN.out, if_pos hlt]
        clear hwl hlt HRN hiL
        go_wp2_with (fail)
        refine CB.out.mono ?_
        clear CB
        rintro e w2 ⟨rfl, hb⟩
        have HS2 := Lib.hid (HS.out.later hb)
        obtain ⟨g3, hg3, ⟨u, hu, d1⟩, _, _⟩ := HS2.out.rowAt 0 rfl i (by omega)
        have hxm : (L.map iV)[i]? = some (iV x) := by
          obtain ⟨g4, hg4, ⟨u4, hu4, d4⟩, _, _⟩ := HS.out.rowAt 0 rfl i (by omega)
          cases hg4
          rw [d0] at d4
          cases d4
          exact hu4
        cases hg3
        rw [hxm] at hu
        cases hu
        clear hb hxm d0
        go_wp2
        go_roundw
        case rel => exact ⟨i + 1, x, rfl, by go_num, by omega, by omega, HXL.out, HRM.out, HS2.out⟩
        case measure => simp [intOf]; omega
      · have hzI : ¬ z < 0 := by rw [decide_eq_false hlt] at hwl; exact of_decide_eq_false hwl
        have HRM : Hid (R = (minO t.rows (some k) (L.drop (i + 1))).getD 0) := by show _ = _; rw [HRN.out, if_neg hlt]
        clear hwl hlt HRN hiL
        go_wp2_with (fail)
        refine CB.out.mono ?_
        clear CB
        rintro e w2 ⟨rfl, hb⟩
        have HS2 := Lib.hid (HS.out.later hb)
        clear hb d0
        go_wp2
        go_roundw
        case rel => exact ⟨i + 1, k, rfl, by go_num, by omega, by omega, HK.out, HRM.out, HS2.out⟩
        case measure => simp [intOf]; omega
    · have hiI : ¬ (i : Int) < (n : Int) := by omega
      have HE : Hid (R = k) := by show _ = _; rw [HRR.out, List.drop_of_length_le (by rw [← HN.out]; omega)]; rfl
      clear HRR
      have HB := Lib.hid HS.out.below
      go_wp2
      go_ret
      exact ⟨by rw [HE.out]; rfl, HB.out⟩
/-- what leastWorn answers -/
def lwV (t : T) : Value := .tuple #[.int .i64 (((best t).map (·.1)).getD 0 : Nat), .bool (best t).isSome]
set_option maxHeartbeats 4000000 in
theorem least_any (H : Own.St B w0 w (AT p v t :: Ps)) (ok : Ok t N) : Calls Try.prog 34 #[ptr p] w fun e w' => e = .returned (lwV t) ∧ Below w.heap.size w w' := by
  have CC := Lib.hid (all_any H ok 0 (by decide))
  have HH := Lib.hid H
  obtain ⟨L, hL⟩ : ∃ L, L = allL 0 t := ⟨_, rfl⟩
  have hlen : L.length ≤ 256 := by rw [hL]; unfold allL; rw [allF_len]; exact Nat.le_trans List.countP_le_length ok.len
  have HLT : Hid (∀ x ∈ L, x < t.rows.length) := fun x hx => (all_lt (by rw [← hL]; exact hx)).1
  have HBM := Lib.hid (best_min t)
  rw [← hL] at CC HBM
  clear H ok hL
  cases hc : L with
  | nil =>
    have HV : Hid (lwV t = .tuple #[.int .i64 0, .bool false]) := by show _ = _; unfold lwV; rw [HBM.out, hc]; rfl
    rw [HV.out]
    rw [hc] at CC
    clear hc HBM HLT hlen
    go_enter Try.func34, Try.ntmps34
    go_wp2_with (fail)
    refine CC.out.mono ?_
    clear CC
    rintro e w1 ⟨ao, c, rfl, h⟩
    have HB := Lib.hid h.below
    clear h
    go_wp2
    go_ret2
    exact ⟨rfl, HB.out⟩
  | cons m l =>
    have HV : Hid (lwV t = .tuple #[.int .i64 (((minO t.rows (some m) l).getD 0 : Nat) : Int), .bool true]) := by
      show _ = _
      obtain ⟨k, hk, _⟩ := minO_some t.rows l m
      unfold lwV
      rw [HBM.out, hc, minO, hk]
      rfl
    rw [HV.out]
    have MM := Lib.hid (fun (w1 : World) (ao : Option Addr) (c : Nat) (h1 : Own.St w.heap.size w w1 [RowI (.slice ao L.length c) L L.length]) => min_any HH.out L HLT.out hlen m l hc h1)
    obtain ⟨R, hR⟩ : ∃ R, R = (minO t.rows (some m) l).getD 0 := ⟨_, rfl⟩
    obtain ⟨n, hn⟩ : ∃ n, n = L.length := ⟨_, rfl⟩
    have hn1 : ((n : Int) == 0) = false := by rw [hn, hc]; simp; omega
    rw [← hR] at MM ⊢
    rw [← hn] at CC hlen MM
    clear hc HBM HLT hR hn HV
    go_enter Try.func34, Try.ntmps34
    go_wp2_with (fail)
    refine CC.out.mono ?_
    clear CC
    rintro e w1 ⟨ao, c, rfl, h⟩
    have M1 := Lib.hid (MM.out w1 ao c h)
    clear h MM
    go_wp2_with (fail)
    refine M1.out.mono ?_
    clear M1
    rintro e w2 ⟨rfl, hb⟩
    have HB := Lib.hid hb
    clear hb
    go_wp2
    go_ret2
    exact ⟨rfl, HB.out⟩
end
end Tba
end Go.Proofs.Ytlgfddpgmpabcaa

end
section
namespace Go.Proofs.Ytlgfddpgmpabcaa
open Go.RowKit Go.Own
namespace Tba
open Go.TabM Tab
section
variable {B : Nat} {w0 w : World} {Ps : List Asn} {p : Nat} {v : Value} {t : T} {N : Nat}
set_option maxRecDepth 4000 in
set_option maxHeartbeats 4000000 in
theorem open_any (H : Own.St B w0 w (AT p v t :: Ps)) (ok : Ok t N) (hN : N ≤ 100000) : Calls Try.prog 18 #[ptr p] w fun e w' => e = .returned (opV (openT t).2) ∧ Own.St B w0 w' (AT p v (openT t).1 :: Ps) := by
  have CC := Lib.hid (cur_any H ok)
  have HH := Lib.hid H
  have HOK := Lib.hid ok
  obtain ⟨X, hX⟩ : ∃ X, X = openT t := ⟨_, rfl⟩
  rw [← hX]
  have HX := Lib.hid hX
  clear hX H ok
  cases hc : cur t with
  | some i =>
    have e1 : curV t = .tuple #[.int .i64 (i : Int), .bool true] := by unfold curV; rw [hc]; rfl
    have e2 : Hid (X = (t, (0, 0, 3))) := by show _ = _; rw [HX.out]; unfold openT; rw [hc]
    rw [e1] at CC
    clear hc e1
    go_enter Try.func18, Try.ntmps18
    go_wp2_with (fail)
    refine CC.out.mono ?_
    clear CC
    rintro e w1 ⟨rfl, hb⟩
    have H1 := Lib.hid (HH.out.later hb)
    clear hb
    go_wp2
    go_ret3
    rw [e2.out]
    exact ⟨rfl, H1.out⟩
  | none =>
    have e1 : curV t = .tuple #[.int .i64 0, .bool false] := by unfold curV; rw [hc]; rfl
    rw [e1] at CC
    cases hbst : best t with
    | none =>
      have e2 : Hid (X = (t, (0, 0, 5))) := by show _ = _; rw [HX.out]; unfold openT; rw [hc, hbst]
      have e3 : lwV t = .tuple #[.int .i64 0, .bool false] := by unfold lwV; rw [hbst]; rfl
      have LW := Lib.hid (fun (w1 : World) (hb : Below w.heap.size w w1) => least_any (HH.out.later hb) HOK.out)
      rw [e3] at LW
      clear hc e1 hbst e3
      go_enter Try.func18, Try.ntmps18
      go_wp2_with (fail)
      refine CC.out.mono ?_
      clear CC
      rintro e w1 ⟨rfl, hb⟩
      have H1 := Lib.hid (HH.out.later hb)
      have L1 := Lib.hid (LW.out w1 hb)
      clear hb LW
      go_wp2_with (fail)
      refine L1.out.mono ?_
      clear L1
      rintro e w2 ⟨rfl, hb⟩
      have H2 := Lib.hid (H1.out.later hb)
      clear hb
      go_wp2
      go_ret3
      rw [e2.out]
      exact ⟨rfl, H2.out⟩
    | some pr =>
      obtain ⟨i, we⟩ := pr
      have e2 : Hid (X = (opened t i we, (i, t.next, 0))) := by show _ = _; rw [HX.out]; unfold openT; rw [hc, hbst]
      have e3 : lwV t = .tuple #[.int .i64 (i : Int), .bool true] := by unfold lwV; rw [hbst]; rfl
      have LW := Lib.hid (fun (w1 : World) (hb : Below w.heap.size w w1) => least_any (HH.out.later hb) HOK.out)
      rw [e3] at LW
      obtain ⟨hi, hk, hw⟩ := best_some hbst
      have hweb : we ≤ 100000 := by rw [← hw]; exact Nat.le_trans (HOK.out.wear _ (at_mem hi)) hN
      obtain ⟨nx, hnx⟩ : ∃ x, x = t.next := ⟨_, rfl⟩
      have hnxb : nx ≤ 100001 := by rw [hnx]; have := HOK.out.next; omega
      have HW := Lib.hid hw
      have HNX := Lib.hid hnx
      clear hc e1 hbst e3 hk hw hnx
      go_enter Try.func18, Try.ntmps18
      go_wp2_with (fail)
      refine CC.out.mono ?_
      clear CC
      rintro e w1 ⟨rfl, hb⟩
      have H1 := Lib.hid (HH.out.later hb)
      have L1 := Lib.hid (LW.out w1 hb)
      clear hb LW
      go_wp2_with (fail)
      refine L1.out.mono ?_
      clear L1
      rintro e w2 ⟨rfl, hb⟩
      have h0 := at_open (H1.out.later hb)
      obtain ⟨ao, cap, rfl⟩ := h0.rowForm 1 rfl
      obtain ⟨g, cc, e, ha⟩ := rowG_at h0 1 rfl i hi
      simp only [Value.slice.injEq, true_and] at e
      obtain ⟨rfl, rfl⟩ := e
      clear hb
      -- the worlds and what lies in them
      obtain ⟨sq, hsq⟩ : ∃ s, s = (at_ t.rows i).seq := ⟨_, rfl⟩
      obtain ⟨f0, s1⟩ := rowG_set h0 1 rfl i 0 ⟨1, sq, we⟩ (.int .u8 1) hi (by omega) (by rw [hsq, ← HW.out]; rfl)
      simp only [List.set_cons_zero, List.set_cons_succ, Nat.add_zero] at f0 s1
      have hi1 : i < (t.rows.set i ⟨1, sq, we⟩).length := by simpa using hi
      have a1 : at_ (t.rows.set i ⟨1, sq, we⟩) i = ⟨1, sq, we⟩ := at_eq (by rw [List.getElem?_set_self hi])
      obtain ⟨W1, hW1⟩ : ∃ W, W = w2.setCell ⟨g, i * 3, none⟩ (.int .u8 1) := ⟨_, rfl⟩
      rw [← hW1] at s1
      rw [show RowG (.slice (some ⟨g, 0, none⟩) t.rows.length cap) (t.rows.set i ⟨1, sq, we⟩) = RowG (.slice (some ⟨g, 0, none⟩) (t.rows.set i ⟨1, sq, we⟩).length cap) (t.rows.set i ⟨1, sq, we⟩) by rw [List.length_set]] at s1
      have q1 := rowG_at2 s1 1 rfl i hi1
      rw [a1] at q1
      obtain ⟨f1, s2⟩ := rowG_set s1 1 rfl i 1 ⟨1, nx, we⟩ (.int .u64 (nx : Int)) hi1 (by omega) (by rw [a1]; rfl)
      simp only [List.set_cons_zero, List.set_cons_succ, List.set_set, List.length_set] at s2
      obtain ⟨W2, hW2⟩ : ∃ W, W = W1.setCell ⟨g, i * 3 + 1, none⟩ (.int .u64 (nx : Int)) := ⟨_, rfl⟩
      rw [← hW2] at s2
      have hi2 : i < (t.rows.set i ⟨1, nx, we⟩).length := by simpa using hi
      have a2 : at_ (t.rows.set i ⟨1, nx, we⟩) i = ⟨1, nx, we⟩ := at_eq (by rw [List.getElem?_set_self hi])
      rw [show RowG (.slice (some ⟨g, 0, none⟩) t.rows.length cap) (t.rows.set i ⟨1, nx, we⟩) = RowG (.slice (some ⟨g, 0, none⟩) (t.rows.set i ⟨1, nx, we⟩).length cap) (t.rows.set i ⟨1, nx, we⟩) by rw [List.length_set]] at s2
      have q2 := rowG_at2 s2 1 rfl i hi2
      rw [a2] at q2
      obtain ⟨f2, s3⟩ := rowG_set s2 1 rfl i 2 ⟨1, nx, we + 1⟩ (.int .u32 ((we + 1 : Nat) : Int)) hi2 (by omega) (by rw [a2]; rfl)
      simp only [List.set_cons_zero, List.set_cons_succ, List.set_set, List.length_set] at s3
      obtain ⟨W3, hW3⟩ : ∃ W, W = W2.setCell ⟨g, i * 3 + 2, none⟩ (.int .u32 ((we + 1 : Nat) : Int)) := ⟨_, rfl⟩
      rw [← hW3] at s3
      have s4 := s3.storeV 0 rfl 1 (.int .u64 ((nx + 1 : Nat) : Int))
      simp only [List.set_cons_zero, List.set_cons_succ] at s4
      obtain ⟨W4, hW4⟩ : ∃ W, W = W3.setCell ⟨p, 1, none⟩ (.int .u64 ((nx + 1 : Nat) : Int)) := ⟨_, rfl⟩
      rw [← hW4] at s4
      have k0 := (h0.cellV 0 rfl 0 rfl).1
      have k1 := (s1.cellV 0 rfl 1 rfl).1
      have k3 := (s3.cellV 0 rfl 1 rfl).1
      have k3f := (s3.cellV 0 rfl 1 rfl).2
      have m0 := ha.c0
      have m1 := q1.c1
      have m2 := q2.c2
      have s5 : Own.St B w0 W4 (AVals p 61 (tabC (.slice (some ⟨g, 0, none⟩) t.rows.length cap) (opened t i we)) :: RowG (.slice (some ⟨g, 0, none⟩) (t.rows.set i ⟨1, nx, we + 1⟩).length cap) (t.rows.set i ⟨1, nx, we + 1⟩) :: Ps) := by
        rw [List.length_set]
        have e : tabC (.slice (some ⟨g, 0, none⟩) t.rows.length cap) (opened t i we) = [.slice (some ⟨g, 0, none⟩) t.rows.length cap, .int .u64 ((nx + 1 : Nat) : Int)] := by rw [HNX.out]; rfl
        rw [e]
        have e2 : RowG (.slice (some ⟨g, 0, none⟩) t.rows.length cap) (t.rows.set i ⟨1, nx, we + 1⟩) = ARow 44 3 (.slice (some ⟨g, 0, none⟩) t.rows.length cap) (t.rows.set i ⟨1, nx, we + 1⟩).length ((t.rows.set i ⟨1, nx, we + 1⟩).flatMap sgC) := rfl
        exact s4
      have hi3 : i < (t.rows.set i ⟨1, nx, we + 1⟩).length := by simpa using hi
      have a3 : at_ (t.rows.set i ⟨1, nx, we + 1⟩) i = ⟨1, nx, we + 1⟩ := at_eq (by rw [List.getElem?_set_self hi])
      have q3 := rowG_at2 s5 1 rfl i hi3
      rw [a3] at q3
      have n1 := q3.c1
      have HF : Hid (Own.St B w0 W4 (AT p (.slice (some ⟨g, 0, none⟩) t.rows.length cap) (opened t i we) :: Ps)) := Lib.hid (by
        refine at_close ?_
        have e : (opened t i we).rows = t.rows.set i ⟨1, nx, we + 1⟩ := by rw [HNX.out]; rfl
        rw [e]
        rw [List.length_set] at s5
        exact s5)
      simp only at m1 m2 n1
      rw [← HNX.out] at k1 k3
      obtain ⟨n, hn⟩ : ∃ n, n = t.rows.length := ⟨_, rfl⟩
      have hin : i < n := by omega
      have hnb : n ≤ 256 := by rw [hn]; exact HOK.out.len
      rw [← hn] at k0
      have HN := Lib.hid hn
      have E1 := hW1.symm
      have E2 := hW2.symm
      have E3 : W2.setCell ⟨g, i * 3 + 2, none⟩ (.int .u32 ((we : Int) + 1)) = W3 := hW3.symm
      have E4 : W3.setCell ⟨p, 1, none⟩ (.int .u64 ((nx : Int) + 1)) = W4 := hW4.symm
      clear h0 ha hsq s1 s2 s3 s4 s5 q1 q2 q3 a1 a2 a3 hi1 hi2 hi3 hi hW1 hW2 hW3 hW4 hn H1 HH
      go_wp2_with (refine Byt.wpList_val rfl (sat_lt (x := 44) rfl hweb _ _ rfl rfl) ?_)
      go_quiet (fail)
      go_wp2
      go_ret3
      rw [e2.out]
      exact ⟨by rw [← HNX.out]; rfl, HF.out.drewN nq⟩
end
end Tba
end Go.Proofs.Ytlgfddpgmpabcaa

end
